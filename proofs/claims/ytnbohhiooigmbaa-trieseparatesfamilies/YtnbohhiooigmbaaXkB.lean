/-
  CONTRACT of Get of package trie at one value type, over this seat's translation.
  Conditions: the trie lies in memory.
-/
import Derived.Test.YtnbohhiooigmbaaXcB
namespace Go.Proofs.Ytnbohhiooigmbaa
open Go.ChangeShapes Go.WideShapes Go.ChangeAt Go.RowKit
set_option linter.unusedVariables false

/-- The value found, or nothing. -/
def ansB : Option (Nat × Value) → Value
  | none => .bool false
  | some (_, x) => x
set_option maxHeartbeats 4000000 in
set_option maxRecDepth 100000 in
theorem getB (p : Px) (hp : Bytes p.xs) (a : Nat) (t4 t6 : Tr) (w : World) (hT : Tri 106 4 101 w a t4 t6) :
    Calls Try.prog 31 #[.pointer (some ⟨a, 0, none⟩), .agg (pfx p.b p.xs p.n).toArray] w fun e w' => e = .returned (.tuple #[ansB (getT (if p.b = true then t6 else t4) p), .bool (getT (if p.b = true then t6 else t4) p).isSome]) ∧ Fr No w w' := by
  obtain ⟨t, ht⟩ : ∃ t, (if p.b = true then t6 else t4) = t := ⟨_, rfl⟩
  have hit : In 106 4 w t ∧ Wf t ∧ w.cell? ⟨a, if p.b = true then 1 else 0, none⟩ = some (rt t) := by
    cases hpb : p.b with
    | true => rw [hpb, if_pos rfl] at ht; rw [if_pos rfl, ← ht]; exact ⟨hT.i6, hT.w6, cell_of hT.head rfl⟩
    | false => rw [hpb, if_neg (by decide)] at ht; rw [if_neg (by decide), ← ht]; exact ⟨hT.i4, hT.w4, cell_of hT.head rfl⟩
  rw [ht]
  obtain ⟨P, hP0, -, -, hPs, hPA, -⟩ := pfx_letter p.b p.xs p.n hp
  obtain ⟨B, hB, -, hBs, -⟩ := adr_letter p.b p.xs hp
  rw [hB] at hPA
  rw [hP0]
  have HRT : Hid (∀ w', Calls Try.prog 57 #[.pointer (some ⟨a, 0, none⟩), .agg B] w' fun e w'' => e = .returned (.pointer (some ⟨a, if p.b = true then 1 else 0, none⟩)) ∧ Fr No w' w'') := fun w' => by rw [← hB]; exact rootB a p.b p.xs hp w'
  obtain ⟨ao, hao⟩ : ∃ ao, (if p.b = true then 1 else 0 : Nat) = ao := ⟨_, rfl⟩
  rw [hao] at hit HRT
  have HFD : Hid (∀ w', Fr No w w' → Calls Try.prog 56 #[.pointer (some ⟨a, ao, none⟩), .agg P] w' fun e w'' => e = .returned (.pointer (some (slotOf ⟨a, ao, none⟩ t (fp t p)))) ∧ Fr No w' w'') := fun w' hf => by rw [← hP0]; exact findB p hp t a ao w' (hit.1.no hf) hit.2.1 (hf.cell hit.2.2)
  have HSC : Hid (∀ w', Fr No w w' → w'.cell? (slotOf ⟨a, ao, none⟩ t (fp t p)) = some (rt (sub t (fp t p))) ∧ In 106 4 w' (sub t (fp t p))) := fun w' hf => ⟨slot_cell (hit.1.no hf) hit.2.1 (fp_ok t p) (hf.cell hit.2.2), sub_in (hit.1.no hf)⟩
  have HW : Hid (∀ g q v l r, sub t (fp t p) = .node g q v l r → okP q) := by
    intro g q v l r hs
    refine hit.2.1.ok q ?_
    have hall : ∀ (t : Tr) ds, ∀ x ∈ (sub t ds).all, x ∈ t.all := by
      intro t
      induction t with
      | nil => intro ds x hx; cases ds <;> exact hx
      | node g q v l r ihl ihr =>
        intro ds x hx
        cases ds with
        | nil => exact hx
        | cons d ds =>
          rw [sub] at hx
          refine List.mem_cons_of_mem _ (List.mem_append.2 ?_)
          split at hx
          · exact .inr (ihr ds x hx)
          · exact .inl (ihl ds x hx)
    exact hall t (fp t p) q (by rw [hs]; exact List.mem_cons_self)
  have hb0 := heap_alloc_new w (.cells P 31)
  have hF0 := Fr.alloc No w (.cells P 31)
  have HB := Lib.hid (And.intro hb0 (And.intro hF0 (adr_part hBs hPA)))
  have HGT : Hid (getT t p = getN p (sub t (fp t p))) := rfl
  have HP0 := Lib.hid (And.intro hP0 hp)
  obtain ⟨S, hS⟩ : ∃ S, slotOf ⟨a, ao, none⟩ t (fp t p) = S := ⟨_, rfl⟩
  rw [HGT.out]
  rw [hS] at HFD HSC
  generalize sub t (fp t p) = u at HSC HW HGT ⊢
  have q31 := Try.eqGuardType31
  clear hit hP0 hB hPA hb0 hF0 hp ht hao hS HGT
  go_enter Try.func31, Try.ntmps31
  have t3 := Try.underlying3
  have u3 := Try.runUnderlying3
  have g3 := Try.isAgg3
  have z3 := Try.sizeOf3
  have t4 := Try.underlying4
  have u4 := Try.runUnderlying4
  have g4 := Try.isAgg4
  have z4 := Try.sizeOf4
  have t9 := Try.underlying9
  have u9 := Try.runUnderlying9
  have g9 := Try.isAgg9
  have z9 := Try.sizeOf9
  have t29 := Try.underlying29
  have u29 := Try.runUnderlying29
  have g29 := Try.isAgg29
  have z29 := Try.sizeOf29
  have t31 := Try.underlying31
  have u31 := Try.runUnderlying31
  have g31 := Try.isAgg31
  have z31 := Try.sizeOf31
  have t99 := Try.underlying99
  have u99 := Try.runUnderlying99
  have g99 := Try.isAgg99
  have z99 := Try.sizeOf99
  have t106 := Try.underlying106
  have u106 := Try.runUnderlying106
  have g106 := Try.isAgg106
  have z106 := Try.sizeOf106
  have t104 := Try.underlying104
  have u104 := Try.runUnderlying104
  have g104 := Try.isAgg104
  have z104 := Try.sizeOf104
  have t109 := Try.underlying109
  have u109 := Try.runUnderlying109
  have g109 := Try.isAgg109
  have z109 := Try.sizeOf109
  have t61 := Try.underlying61
  have u61 := Try.runUnderlying61
  have g61 := Try.isAgg61
  have z61 := Try.sizeOf61
  have t103 := Try.underlying103
  have u103 := Try.runUnderlying103
  have g103 := Try.isAgg103
  have z103 := Try.sizeOf103
  have t101 := Try.underlying101
  have u101 := Try.runUnderlying101
  have g101 := Try.isAgg101
  have z101 := Try.sizeOf101
  have c57 := Try.call57
  have c56 := Try.call56
  have mixed : Try.prog.follows .mixedOrders = true := by kernel_rfl
  obtain ⟨k30, hk30⟩ : ∃ k, k = 17 := ⟨_, rfl⟩
  rw [← hk30] at z29
  have nk30 : ¬ k30 = 0 := by omega
  have HK29 := Lib.hid hk30
  obtain ⟨k40, hk40⟩ : ∃ k, k = 18 := ⟨_, rfl⟩
  rw [← hk40] at z31
  have nk40 : ¬ k40 = 0 := by omega
  have HK31 := Lib.hid hk40
  have hP : Try.prog = PD := rfl
  rw [hP] at t3 u3 g3 z3 t4 u4 g4 z4 t9 u9 g9 z9 t29 u29 g29 z29 t31 u31 g31 z31 t99 u99 g99 z99 t106 u106 g106 z106 t104 u104 g104 z104 t109 u109 g109 z109 t61 u61 g61 z61 t103 u103 g103 z103 t101 u101 g101 z101 c57 c56 mixed q31 ⊢
  have HP := Lib.hid hP.symm
  clear hP hk30 hk40
  have hPk : P.size = k40 := by rw [HK31.out]; exact hPs
  have hBk : B.size = k30 := by rw [HK29.out]; exact hBs
  clear hPs hBs
  have HL : Hid (∀ w', Fr No (w.alloc (.cells P 31)) w' → Fr No (w.alloc (.cells P 31)) w' ∧ Sem.run PD (loadCellsFrom ⟨w.heap.size, 0, none⟩ 0 k40 #[]) w' = .ok P w' ∧ Sem.run PD (loadCellsFrom ⟨w.heap.size, 0, none⟩ 0 k30 #[]) w' = .ok B w' ∧ w'.cell? S = some (rt u)) := fun w' hf => ⟨hf, load_block (hf.keep HB.out.1) hPk (fun j v hv => by simpa using hv), load_block (hf.keep HB.out.1) hBk HB.out.2.2, (HSC.out w' (HB.out.2.1.trans hf)).1⟩
  have f1 := HL.out _ (Fr.drew No _)
  go_upto_region 1 with fail
  go_region_held3 (fun w' => Fr No (w.alloc (.cells P 31)) w' ∧ Sem.run PD (loadCellsFrom ⟨w.heap.size, 0, none⟩ 0 k40 #[]) w' = .ok P w' ∧ Sem.run PD (loadCellsFrom ⟨w.heap.size, 0, none⟩ 0 k30 #[]) w' = .ok B w' ∧ w'.cell? S = some (rt u)) (first | assumption | exact HL.out _ K3 | exact HL.out _ K4) (first | (go_at_call 57; go_loud (refine (at_prog HP.out (HRT.out _)).mono ?_; rintro e w3 ⟨rfl, hf3⟩; have K3 : Fr No (w.alloc (.cells P 31)) w3 := Fr.trans (And.left (by assumption)) hf3)) | (go_at_call 56; go_loud (refine (at_prog HP.out (HFD.out _ (HB.out.2.1.trans (And.left (by assumption))))).mono ?_; rintro e w4 ⟨rfl, hf4⟩; have K4 : Fr No (w.alloc (.cells P 31)) w4 := Fr.trans (And.left (by assumption)) hf4)))
  have K0 : Fr No w w4 := HB.out.2.1.trans K4
  have HI4 := Lib.hid (HSC.out w4 K0).2
  have HKK := Lib.hid K0
  clear hf3 K3 hf4 f1 K0 HFD HRT
  cases u with
  | nil =>
    rw [show rt Tr.nil = .pointer none from rfl]
    go_wp2_with fail
    go_quiet (fail)
    go_wp2_with fail
    go_ret2
    exact ⟨rfl, HKK.out.trans (Fr.drewN _ _ _)⟩
  | node g q v l r =>
    have hq := HW.out g q v l r rfl
    obtain ⟨K, hK, -, -, hKs, -, -⟩ := pfx_letter q.b q.xs q.n hq.1
    have hKk : K.size = k40 := by rw [HK31.out]; exact hKs
    have lq1 : ∀ m, Sem.run PD (loadCellsFrom ⟨g, 0, none⟩ 0 k40 #[]) (w4.drewN m) = .ok K (w4.drewN m) := fun m => load_block ((Fr.drewN No w4 m).keep HI4.out.1) hKk (fun j u hu => cellsOf_pfx j u (by rw [hK]; exact hu))
    have lq2 := fun m => (HL.out (w4.drewN m) (K4.trans (Fr.drewN _ _ _))).2.1
    have lq3 : w4.cell? ⟨g, 18, none⟩ = some (vp v) := cell_of HI4.out.1 (cellsOf_at hq.1 v l r).1
    have hEQ : ∀ w', Sem.run PD (Op.equalIn 10000 31 (.agg K) (.agg P)) w' = .ok (decide (q = p)) w' := fun w' => by
      rw [HP.out, ← hK, ← HP0.out.1, pfx_eq q.n p.n hq.1 HP0.out.2 w']
      congr 1
      exact decide_eq_decide.2 Px.eq_iff
    have HGN : Hid (getN p (.node g q v l r) = if q = p then v else none) := rfl
    rw [show rt (Tr.node g q v l r) = .pointer (some ⟨g, 0, none⟩) from rfl]
    clear hK hKs hq K4
    by_cases hqp : q = p
    · rw [decide_eq_true hqp] at hEQ
      rw [if_pos hqp] at HGN
      clear hqp
      cases v with
      | none =>
        rw [show vp none = .pointer none from rfl] at lq3
        go_wp2_with fail
        go_quiet (fail)
        go_wp2_with fail
        go_ret2
        exact ⟨by rw [HGN.out]; rfl, HKK.out.trans (Fr.drewN _ _ _)⟩
      | some ux =>
        obtain ⟨vb, x⟩ := ux
        rw [show vp (some (vb, x)) = .pointer (some ⟨vb, 0, none⟩) from rfl] at lq3
        have lq4 : w4.cell? ⟨vb, 0, none⟩ = some x := cell_of HI4.out.2.1 rfl
        go_wp2_with fail
        go_quiet (fail)
        go_wp2_with fail
        go_ret2
        exact ⟨by rw [HGN.out]; rfl, HKK.out.trans (Fr.drewN _ _ _)⟩
    · rw [decide_eq_false hqp] at hEQ
      rw [if_neg hqp] at HGN
      clear hqp
      go_wp2_with fail
      go_quiet (fail)
      go_wp2_with fail
      go_ret2
      exact ⟨by rw [HGN.out]; rfl, HKK.out.trans (Fr.drewN _ _ _)⟩
end Go.Proofs.Ytnbohhiooigmbaa
