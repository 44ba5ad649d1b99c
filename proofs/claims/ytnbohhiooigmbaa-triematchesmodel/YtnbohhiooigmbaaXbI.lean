/-
  CONTRACT of find of package trie at one value type, over this seat's translation.
  Conditions: the tree lies in memory, the place points to it.
-/
import Derived.Test.YtnbohhiooigmbaaXaI
namespace Go.Proofs.Ytnbohhiooigmbaa
open Go.ChangeShapes Go.WideShapes Go.ChangeAt Go.RowKit
set_option linter.unusedVariables false

/-- How many nodes. -/
def szI : Tr → Nat
  | .nil => 0
  | .node _ _ _ l r => szI l + szI r + 1
set_option maxHeartbeats 4000000 in
set_option maxRecDepth 100000 in
theorem findI (p : Px) (hp : Bytes p.xs) (t : Tr) (ab ao : Nat) (w : World) (hi : In 81 3 w t) (hw : Wf t) (ha : w.cell? ⟨ab, ao, none⟩ = some (rt t)) :
    Calls Try.prog 42 #[.pointer (some ⟨ab, ao, none⟩), .agg (pfx p.b p.xs p.n).toArray] w fun e w' => e = .returned (.pointer (some (slotOf ⟨ab, ao, none⟩ t (fp t p)))) ∧ Fr No w w' := by
  obtain ⟨P, hP0, -, -, hPs, hPA, -⟩ := pfx_letter p.b p.xs p.n hp
  obtain ⟨B, hB, -, hBs, -⟩ := adr_letter p.b p.xs hp
  rw [hB] at hPA
  rw [hP0]
  have hF0 := Fr.alloc No w (.cells P 31)
  have hb0 := heap_alloc_new w (.cells P 31)
  have ha1 := hF0.cell ha
  have HI : Hid (In 81 3 (w.alloc (.cells P 31)) t ∧ Wf t ∧ Fr No w (w.alloc (.cells P 31)) ∧ (w.alloc (.cells P 31)).heap[w.heap.size]? = some (.cells P 31 (0, 0))) := ⟨hi.no hF0, hw, hF0, hb0⟩
  have HPP := Lib.hid (And.intro hP0 (And.intro hB (And.intro hPA hp)))
  have HA := Lib.hid ha1
  have q31 := Try.eqGuardType31
  clear hi hw hF0 hb0 hP0 hB hPA hp ha
  go_enter Try.func42, Try.ntmps42
  have t3 := Try.underlying3
  have u3 := Try.runUnderlying3
  have g3 := Try.isAgg3
  have z3 := Try.sizeOf3
  have t4 := Try.underlying4
  have u4 := Try.runUnderlying4
  have g4 := Try.isAgg4
  have z4 := Try.sizeOf4
  have t29 := Try.underlying29
  have u29 := Try.runUnderlying29
  have g29 := Try.isAgg29
  have z29 := Try.sizeOf29
  have t31 := Try.underlying31
  have u31 := Try.runUnderlying31
  have g31 := Try.isAgg31
  have z31 := Try.sizeOf31
  have t73 := Try.underlying73
  have u73 := Try.runUnderlying73
  have g73 := Try.isAgg73
  have z73 := Try.sizeOf73
  have t81 := Try.underlying81
  have u81 := Try.runUnderlying81
  have g81 := Try.isAgg81
  have z81 := Try.sizeOf81
  have t79 := Try.underlying79
  have u79 := Try.runUnderlying79
  have g79 := Try.isAgg79
  have z79 := Try.sizeOf79
  have t84 := Try.underlying84
  have u84 := Try.runUnderlying84
  have g84 := Try.isAgg84
  have z84 := Try.sizeOf84
  have c65 := Try.call65
  have c63 := Try.call63
  have mixed : Try.prog.follows .mixedOrders = true := by kernel_rfl
  obtain ⟨k30, hk30⟩ : ∃ k, k = 17 := ⟨_, rfl⟩
  rw [← hk30] at z29
  have nk30 : ¬ k30 = 0 := by omega
  have HK29 := Lib.hid hk30
  obtain ⟨k40, hk40⟩ : ∃ k, k = 18 := ⟨_, rfl⟩
  rw [← hk40] at z31
  have nk40 : ¬ k40 = 0 := by omega
  have HK31 := Lib.hid hk40
  have hP : Try.prog = PD := rfl
  rw [hP] at t3 u3 g3 z3 t4 u4 g4 z4 t29 u29 g29 z29 t31 u31 g31 z31 t73 u73 g73 z73 t81 u81 g81 z81 t79 u79 g79 z79 t84 u84 g84 z84 c65 c63 mixed q31 ⊢
  have HP := Lib.hid hP.symm
  clear hP hk30 hk40
  have hPk : P.size = k40 := by rw [HK31.out]; exact hPs
  have hBk : B.size = k30 := by rw [HK29.out]; exact hBs
  clear hPs hBs
  go_wp2_with fail
  clear ha1
  obtain ⟨w1, hw1⟩ : ∃ w1, w.alloc (.cells P 31) = w1 := ⟨_, rfl⟩
  obtain ⟨pb, hpb⟩ : ∃ pb, w.heap.size = pb := ⟨_, rfl⟩
  rw [hw1, hpb] at HI
  rw [hw1] at HA
  rw [hw1, hpb]
  clear hw1 hpb
  go_loopg [0, 5] (szI t + 1) (fun g s0 s5 wr => ∃ (cb co : Nat) (u : Tr), s0 = .pointer (some ⟨cb, co, none⟩) ∧ s5 = rt u ∧ szI u < g ∧ Hid (In 81 3 wr u ∧ Wf u ∧ wr.cell? ⟨cb, co, none⟩ = some (rt u) ∧ slotOf ⟨cb, co, none⟩ u (fp u p) = slotOf ⟨ab, ao, none⟩ t (fp t p) ∧ Fr No w1 wr))
  case atStart => exact ⟨ab, ao, t, rfl, rfl, by omega, HI.out.1, HI.out.2.1, HA.out, rfl, Fr.refl _ _⟩
  case round =>
    obtain ⟨cb, co, u, rfl, rfl, hug, HR⟩ := hrel
    cases u with
    | nil =>
      have e : rt Tr.nil = .pointer none := rfl
      rw [e]
      go_wp2_with fail
      go_quiet (fail)
      go_wp2_with fail
      go_ret
      exact ⟨by rw [← HR.out.2.2.2.1]; rfl, HI.out.2.2.1.trans (HR.out.2.2.2.2.trans (Fr.drewN _ _ _))⟩
    | node g q v l r =>
      have e : rt (Tr.node g q v l r) = .pointer (some ⟨g, 0, none⟩) := rfl
      rw [e]
      have hwq : okP q := HR.out.2.1.1
      obtain ⟨K, hK, -, -, hKs, -, -⟩ := pfx_letter q.b q.xs q.n hwq.1
      obtain ⟨C, hC⟩ : ∃ C, (cellsOf q v l r).toArray = C := ⟨_, rfl⟩
      have hKk : K.size = k40 := by rw [HK31.out]; exact hKs
      have HL : Hid (∀ w', Fr No wr w' → Fr No wr w' ∧ Sem.run PD (loadCellsFrom ⟨g, 0, none⟩ 0 k40 #[]) w' = .ok K w' ∧ Sem.run PD (loadCellsFrom ⟨pb, 0, none⟩ 0 k40 #[]) w' = .ok P w' ∧ Sem.run PD (loadCellsFrom ⟨pb, 0, none⟩ 0 k30 #[]) w' = .ok B w') := fun w' hf => ⟨hf, load_block (hf.keep HR.out.1.1) hKk (fun j u hu => cellsOf_pfx j u (by rw [hK]; exact hu)), load_block ((HR.out.2.2.2.2.trans hf).keep HI.out.2.2.2) hPk (fun j u hu => by simpa using hu), load_block ((HR.out.2.2.2.2.trans hf).keep HI.out.2.2.2) hBk (adr_part (by rw [hBk, HK29.out]) HPP.out.2.2.1)⟩
      have hEQ : ∀ w', Sem.run PD (Op.equalIn 10000 31 (.agg K) (.agg P)) w' = .ok (decide (q = p)) w' := fun w' => by
        rw [HP.out, ← hK, ← HPP.out.1, pfx_eq q.n p.n hwq.1 HPP.out.2.2.2 w']
        congr 1
        exact decide_eq_decide.2 Px.eq_iff
      have HCV : Hid (∀ w', Calls Try.prog 65 #[.agg K, .agg P] w' fun e w'' => e = .returned (.bool (cov q p)) ∧ Fr No w' w'') := fun w' => by rw [← hK, ← HPP.out.1]; exact cov_any q.b p.b q.xs p.xs q.n p.n hwq.1 HPP.out.2.2.2 w'
      have HSD : Hid (∀ w', Fr No wr w' → Calls Try.prog 63 #[.pointer (some ⟨g, 0, none⟩), .agg B] w' fun e w'' => e = .returned (.pointer (some ⟨g, if sideB q p.b p.xs = true then 20 else 19, none⟩)) ∧ Fr No w' w'') := fun w' hf => by rw [← HPP.out.2.1]; exact sdI g q v l r p.b p.xs hwq HPP.out.2.2.2 w' (hf.keep HR.out.1.1)
      have HQ : Hid ((pfx q.b q.xs q.n).toArray = K) := hK
      have f2 := HL.out _ (Fr.drew No wr)
      clear hK hKs hwq hC e
      by_cases hqp : q = p
      · have HE : Hid (fp (Tr.node g q v l r) p = []) := by show _ = _; rw [fp, if_neg (fun h => h.1 hqp)]
        rw [decide_eq_true hqp] at hEQ
        have HQP := Lib.hid hqp
        clear hqp
        have lq1 := fun m => (HL.out (wr.drewN m) (Fr.drewN _ _ _)).2.1
        have lq2 := fun m => (HL.out (wr.drewN m) (Fr.drewN _ _ _)).2.2.1
        go_wp2_with fail
        go_quiet (fail)
        go_wp2_with fail
        go_ret
        exact ⟨by rw [← HR.out.2.2.2.1, HE.out]; rfl, HI.out.2.2.1.trans (HR.out.2.2.2.2.trans (Fr.drewN _ _ _))⟩
      · rw [decide_eq_false hqp] at hEQ
        have HQP := Lib.hid hqp
        clear hqp
        cases hcv : cov q p
        · have HE : Hid (fp (Tr.node g q v l r) p = []) := by show _ = _; rw [fp, if_neg (fun h => by rw [hcv] at h; exact Bool.noConfusion h.2)]
          rw [hcv] at HCV
          clear hcv
          go_wp2_with fail
          go_region_held3 (fun w' => Fr No wr w' ∧ Sem.run PD (loadCellsFrom ⟨g, 0, none⟩ 0 k40 #[]) w' = .ok K w' ∧ Sem.run PD (loadCellsFrom ⟨pb, 0, none⟩ 0 k40 #[]) w' = .ok P w' ∧ Sem.run PD (loadCellsFrom ⟨pb, 0, none⟩ 0 k30 #[]) w' = .ok B w') (first | assumption | exact HL.out _ (Fr.trans (And.left (by assumption)) hf3)) (first | (go_at_call 65; go_loud (refine (at_prog HP.out (HCV.out _)).mono ?_; rintro e w3 ⟨rfl, hf3⟩; have K3 : Fr No wr w3 := Fr.trans (And.left (by assumption)) hf3)))
          go_wp2_with fail
          go_ret
          exact ⟨by rw [← HR.out.2.2.2.1, HE.out]; rfl, HI.out.2.2.1.trans (HR.out.2.2.2.2.trans K3)⟩
        · cases hsd : sideB q p.b p.xs
          · have HE : Hid (fp (Tr.node g q v l r) p = false :: fp l p) := by show _ = _; rw [fp, if_pos ⟨HQP.out, hcv⟩, if_neg (by rw [hsd]; decide)]
            have HCL : Hid (∀ w', Fr No wr w' → w'.cell? ⟨g, 19, none⟩ = some (rt l)) := fun w' hf => cell_of (hf.keep HR.out.1.1) (cellsOf_at HR.out.2.1.1.1 v l r).2.1
            rw [hcv] at HCV
            rw [hsd, if_neg (by decide)] at HSD
            clear hcv hsd
            go_wp2_with fail
            go_region_held3 (fun w' => Fr No wr w' ∧ Sem.run PD (loadCellsFrom ⟨g, 0, none⟩ 0 k40 #[]) w' = .ok K w' ∧ Sem.run PD (loadCellsFrom ⟨pb, 0, none⟩ 0 k40 #[]) w' = .ok P w' ∧ Sem.run PD (loadCellsFrom ⟨pb, 0, none⟩ 0 k30 #[]) w' = .ok B w') (first | assumption | exact HL.out _ (Fr.trans (And.left (by assumption)) hf3)) (first | (go_at_call 65; go_loud (refine (at_prog HP.out (HCV.out _)).mono ?_; rintro e w3 ⟨rfl, hf3⟩; have K3 : Fr No wr w3 := Fr.trans (And.left (by assumption)) hf3)))
            have lb3 := (HL.out w3 K3).2.2.2
            go_wp2_with (first | (go_at_call 63; go_loud (refine (at_prog HP.out (HSD.out _ K3)).mono ?_; rintro e w4 ⟨rfl, hf4⟩; have K4 := K3.trans hf4; have hc4 := HCL.out _ K4)) | fail)
            go_roundg (szI (Tr.node g q v l r))
            case measure => exact hug
            case rel => exact ⟨g, 19, l, rfl, rfl, by show szI l < szI l + szI r + 1; omega, HR.out.1.2.2.1.no K4, HR.out.2.1.2.2.2.1, hc4, by rw [← HR.out.2.2.2.1, HE.out, slotOf, if_neg (by decide)], HR.out.2.2.2.2.trans K4⟩
          · have HE : Hid (fp (Tr.node g q v l r) p = true :: fp r p) := by show _ = _; rw [fp, if_pos ⟨HQP.out, hcv⟩, if_pos (by rw [hsd])]
            have HCL : Hid (∀ w', Fr No wr w' → w'.cell? ⟨g, 20, none⟩ = some (rt r)) := fun w' hf => cell_of (hf.keep HR.out.1.1) (cellsOf_at HR.out.2.1.1.1 v l r).2.2
            rw [hcv] at HCV
            rw [hsd, if_pos rfl] at HSD
            clear hcv hsd
            go_wp2_with fail
            go_region_held3 (fun w' => Fr No wr w' ∧ Sem.run PD (loadCellsFrom ⟨g, 0, none⟩ 0 k40 #[]) w' = .ok K w' ∧ Sem.run PD (loadCellsFrom ⟨pb, 0, none⟩ 0 k40 #[]) w' = .ok P w' ∧ Sem.run PD (loadCellsFrom ⟨pb, 0, none⟩ 0 k30 #[]) w' = .ok B w') (first | assumption | exact HL.out _ (Fr.trans (And.left (by assumption)) hf3)) (first | (go_at_call 65; go_loud (refine (at_prog HP.out (HCV.out _)).mono ?_; rintro e w3 ⟨rfl, hf3⟩; have K3 : Fr No wr w3 := Fr.trans (And.left (by assumption)) hf3)))
            have lb3 := (HL.out w3 K3).2.2.2
            go_wp2_with (first | (go_at_call 63; go_loud (refine (at_prog HP.out (HSD.out _ K3)).mono ?_; rintro e w4 ⟨rfl, hf4⟩; have K4 := K3.trans hf4; have hc4 := HCL.out _ K4)) | fail)
            go_roundg (szI (Tr.node g q v l r))
            case measure => exact hug
            case rel => exact ⟨g, 20, r, rfl, rfl, by show szI r < szI l + szI r + 1; omega, HR.out.1.2.2.2.no K4, HR.out.2.1.2.2.2.2, hc4, by rw [← HR.out.2.2.2.1, HE.out, slotOf, if_pos rfl], HR.out.2.2.2.2.trans K4⟩
end Go.Proofs.Ytnbohhiooigmbaa
