/-
  CONTRACT of Get of package trie at one value type, over this seat's translation.
  Conditions: the trie lies in memory.
-/
import Derived.Test.YtnbohhiooigmbaaXcI
namespace Go.Proofs.Ytnbohhiooigmbaa
open Go.ChangeShapes Go.WideShapes Go.ChangeAt Go.RowKit
set_option linter.unusedVariables false

/-- The value found, or nothing. -/
def ansI : Option (Nat × Value) → Value
  | none => .int .i64 0
  | some (_, x) => x
set_option maxHeartbeats 4000000 in
set_option maxRecDepth 100000 in
theorem getI (p : Px) (hp : Bytes p.xs) (a : Nat) (t4 t6 : Tr) (w : World) (hT : Tri 81 3 75 w a t4 t6) :
    Calls Try.prog 15 #[.pointer (some ⟨a, 0, none⟩), .agg (pfx p.b p.xs p.n).toArray] w fun e w' => e = .returned (.tuple #[ansI (getT (if p.b = true then t6 else t4) p), .bool (getT (if p.b = true then t6 else t4) p).isSome]) ∧ Fr No w w' := by
  obtain ⟨t, ht⟩ : ∃ t, (if p.b = true then t6 else t4) = t := ⟨_, rfl⟩
  have hit : In 81 3 w t ∧ Wf t ∧ w.cell? ⟨a, if p.b = true then 1 else 0, none⟩ = some (rt t) := by
    cases hpb : p.b with
    | true => rw [hpb, if_pos rfl] at ht; rw [if_pos rfl, ← ht]; exact ⟨hT.i6, hT.w6, cell_of hT.head rfl⟩
    | false => rw [hpb, if_neg (by decide)] at ht; rw [if_neg (by decide), ← ht]; exact ⟨hT.i4, hT.w4, cell_of hT.head rfl⟩
  rw [ht]
  obtain ⟨P, hP0, -, -, hPs, hPA, -⟩ := pfx_letter p.b p.xs p.n hp
  obtain ⟨B, hB, -, hBs, -⟩ := adr_letter p.b p.xs hp
  rw [hB] at hPA
  rw [hP0]
  have HRT : Hid (∀ w', Calls Try.prog 40 #[.pointer (some ⟨a, 0, none⟩), .agg B] w' fun e w'' => e = .returned (.pointer (some ⟨a, if p.b = true then 1 else 0, none⟩)) ∧ Fr No w' w'') := fun w' => by rw [← hB]; exact rootI a p.b p.xs hp w'
  obtain ⟨ao, hao⟩ : ∃ ao, (if p.b = true then 1 else 0 : Nat) = ao := ⟨_, rfl⟩
  rw [hao] at hit HRT
  have HFD : Hid (∀ w', Fr No w w' → Calls Try.prog 42 #[.pointer (some ⟨a, ao, none⟩), .agg P] w' fun e w'' => e = .returned (.pointer (some (slotOf ⟨a, ao, none⟩ t (fp t p)))) ∧ Fr No w' w'') := fun w' hf => by rw [← hP0]; exact findI p hp t a ao w' (hit.1.no hf) hit.2.1 (hf.cell hit.2.2)
  have HSC : Hid (∀ w', Fr No w w' → w'.cell? (slotOf ⟨a, ao, none⟩ t (fp t p)) = some (rt (sub t (fp t p))) ∧ In 81 3 w' (sub t (fp t p))) := fun w' hf => ⟨slot_cell (hit.1.no hf) hit.2.1 (fp_ok t p) (hf.cell hit.2.2), sub_in (hit.1.no hf)⟩
  have HW : Hid (∀ g q v l r, sub t (fp t p) = .node g q v l r → okP q) := by
    intro g q v l r hs
    refine hit.2.1.ok q ?_
    have hall : ∀ (t : Tr) ds, ∀ x ∈ (sub t ds).all, x ∈ t.all := by
      intro t
      induction t with
      | nil => intro ds x hx; cases ds <;> exact hx
      | node g q v l r ihl ihr =>
        intro ds x hx
        cases ds with
        | nil => exact hx
        | cons d ds =>
          rw [sub] at hx
          refine List.mem_cons_of_mem _ (List.mem_append.2 ?_)
          split at hx
          · exact .inr (ihr ds x hx)
          · exact .inl (ihl ds x hx)
    exact hall t (fp t p) q (by rw [hs]; exact List.mem_cons_self)
  have hb0 := heap_alloc_new w (.cells P 31)
  have hF0 := Fr.alloc No w (.cells P 31)
  have HB := Lib.hid (And.intro hb0 (And.intro hF0 (adr_part hBs hPA)))
  have HGT : Hid (getT t p = getN p (sub t (fp t p))) := rfl
  have HP0 := Lib.hid (And.intro hP0 hp)
  obtain ⟨S, hS⟩ : ∃ S, slotOf ⟨a, ao, none⟩ t (fp t p) = S := ⟨_, rfl⟩
  rw [HGT.out]
  rw [hS] at HFD HSC
  generalize sub t (fp t p) = u at HSC HW HGT ⊢
  have q31 := Try.eqGuardType31
  clear hit hP0 hB hPA hb0 hF0 hp ht hao hS HGT
  go_enter Try.func15, Try.ntmps15
  have t3 := Try.underlying3
  have u3 := Try.runUnderlying3
  have g3 := Try.isAgg3
  have z3 := Try.sizeOf3
  have t4 := Try.underlying4
  have u4 := Try.runUnderlying4
  have g4 := Try.isAgg4
  have z4 := Try.sizeOf4
  have t9 := Try.underlying9
  have u9 := Try.runUnderlying9
  have g9 := Try.isAgg9
  have z9 := Try.sizeOf9
  have t29 := Try.underlying29
  have u29 := Try.runUnderlying29
  have g29 := Try.isAgg29
  have z29 := Try.sizeOf29
  have t31 := Try.underlying31
  have u31 := Try.runUnderlying31
  have g31 := Try.isAgg31
  have z31 := Try.sizeOf31
  have t73 := Try.underlying73
  have u73 := Try.runUnderlying73
  have g73 := Try.isAgg73
  have z73 := Try.sizeOf73
  have t81 := Try.underlying81
  have u81 := Try.runUnderlying81
  have g81 := Try.isAgg81
  have z81 := Try.sizeOf81
  have t79 := Try.underlying79
  have u79 := Try.runUnderlying79
  have g79 := Try.isAgg79
  have z79 := Try.sizeOf79
  have t84 := Try.underlying84
  have u84 := Try.runUnderlying84
  have g84 := Try.isAgg84
  have z84 := Try.sizeOf84
  have t24 := Try.underlying24
  have u24 := Try.runUnderlying24
  have g24 := Try.isAgg24
  have z24 := Try.sizeOf24
  have t78 := Try.underlying78
  have u78 := Try.runUnderlying78
  have g78 := Try.isAgg78
  have z78 := Try.sizeOf78
  have t75 := Try.underlying75
  have u75 := Try.runUnderlying75
  have g75 := Try.isAgg75
  have z75 := Try.sizeOf75
  have c40 := Try.call40
  have c42 := Try.call42
  have mixed : Try.prog.follows .mixedOrders = true := by kernel_rfl
  obtain ⟨k30, hk30⟩ : ∃ k, k = 17 := ⟨_, rfl⟩
  rw [← hk30] at z29
  have nk30 : ¬ k30 = 0 := by omega
  have HK29 := Lib.hid hk30
  obtain ⟨k40, hk40⟩ : ∃ k, k = 18 := ⟨_, rfl⟩
  rw [← hk40] at z31
  have nk40 : ¬ k40 = 0 := by omega
  have HK31 := Lib.hid hk40
  have hP : Try.prog = PD := rfl
  rw [hP] at t3 u3 g3 z3 t4 u4 g4 z4 t9 u9 g9 z9 t29 u29 g29 z29 t31 u31 g31 z31 t73 u73 g73 z73 t81 u81 g81 z81 t79 u79 g79 z79 t84 u84 g84 z84 t24 u24 g24 z24 t78 u78 g78 z78 t75 u75 g75 z75 c40 c42 mixed q31 ⊢
  have HP := Lib.hid hP.symm
  clear hP hk30 hk40
  have hPk : P.size = k40 := by rw [HK31.out]; exact hPs
  have hBk : B.size = k30 := by rw [HK29.out]; exact hBs
  clear hPs hBs
  have HL : Hid (∀ w', Fr No (w.alloc (.cells P 31)) w' → Fr No (w.alloc (.cells P 31)) w' ∧ Sem.run PD (loadCellsFrom ⟨w.heap.size, 0, none⟩ 0 k40 #[]) w' = .ok P w' ∧ Sem.run PD (loadCellsFrom ⟨w.heap.size, 0, none⟩ 0 k30 #[]) w' = .ok B w' ∧ w'.cell? S = some (rt u)) := fun w' hf => ⟨hf, load_block (hf.keep HB.out.1) hPk (fun j v hv => by simpa using hv), load_block (hf.keep HB.out.1) hBk HB.out.2.2, (HSC.out w' (HB.out.2.1.trans hf)).1⟩
  have f1 := HL.out _ (Fr.drew No _)
  go_upto_region 1 with fail
  go_region_held3 (fun w' => Fr No (w.alloc (.cells P 31)) w' ∧ Sem.run PD (loadCellsFrom ⟨w.heap.size, 0, none⟩ 0 k40 #[]) w' = .ok P w' ∧ Sem.run PD (loadCellsFrom ⟨w.heap.size, 0, none⟩ 0 k30 #[]) w' = .ok B w' ∧ w'.cell? S = some (rt u)) (first | assumption | exact HL.out _ K3 | exact HL.out _ K4) (first | (go_at_call 40; go_loud (refine (at_prog HP.out (HRT.out _)).mono ?_; rintro e w3 ⟨rfl, hf3⟩; have K3 : Fr No (w.alloc (.cells P 31)) w3 := Fr.trans (And.left (by assumption)) hf3)) | (go_at_call 42; go_loud (refine (at_prog HP.out (HFD.out _ (HB.out.2.1.trans (And.left (by assumption))))).mono ?_; rintro e w4 ⟨rfl, hf4⟩; have K4 : Fr No (w.alloc (.cells P 31)) w4 := Fr.trans (And.left (by assumption)) hf4)))
  have K0 : Fr No w w4 := HB.out.2.1.trans K4
  have HI4 := Lib.hid (HSC.out w4 K0).2
  have HKK := Lib.hid K0
  clear hf3 K3 hf4 f1 K0 HFD HRT
  cases u with
  | nil =>
    rw [show rt Tr.nil = .pointer none from rfl]
    go_wp2_with fail
    go_quiet (fail)
    go_wp2_with fail
    go_ret2
    exact ⟨rfl, HKK.out.trans (Fr.drewN _ _ _)⟩
  | node g q v l r =>
    have hq := HW.out g q v l r rfl
    obtain ⟨K, hK, -, -, hKs, -, -⟩ := pfx_letter q.b q.xs q.n hq.1
    have hKk : K.size = k40 := by rw [HK31.out]; exact hKs
    have lq1 : ∀ m, Sem.run PD (loadCellsFrom ⟨g, 0, none⟩ 0 k40 #[]) (w4.drewN m) = .ok K (w4.drewN m) := fun m => load_block ((Fr.drewN No w4 m).keep HI4.out.1) hKk (fun j u hu => cellsOf_pfx j u (by rw [hK]; exact hu))
    have lq2 := fun m => (HL.out (w4.drewN m) (K4.trans (Fr.drewN _ _ _))).2.1
    have lq3 : w4.cell? ⟨g, 18, none⟩ = some (vp v) := cell_of HI4.out.1 (cellsOf_at hq.1 v l r).1
    have hEQ : ∀ w', Sem.run PD (Op.equalIn 10000 31 (.agg K) (.agg P)) w' = .ok (decide (q = p)) w' := fun w' => by
      rw [HP.out, ← hK, ← HP0.out.1, pfx_eq q.n p.n hq.1 HP0.out.2 w']
      congr 1
      exact decide_eq_decide.2 Px.eq_iff
    have HGN : Hid (getN p (.node g q v l r) = if q = p then v else none) := rfl
    rw [show rt (Tr.node g q v l r) = .pointer (some ⟨g, 0, none⟩) from rfl]
    clear hK hKs hq K4
    by_cases hqp : q = p
    · rw [decide_eq_true hqp] at hEQ
      rw [if_pos hqp] at HGN
      clear hqp
      cases v with
      | none =>
        rw [show vp none = .pointer none from rfl] at lq3
        go_wp2_with fail
        go_quiet (fail)
        go_wp2_with fail
        go_ret2
        exact ⟨by rw [HGN.out]; rfl, HKK.out.trans (Fr.drewN _ _ _)⟩
      | some ux =>
        obtain ⟨vb, x⟩ := ux
        rw [show vp (some (vb, x)) = .pointer (some ⟨vb, 0, none⟩) from rfl] at lq3
        have lq4 : w4.cell? ⟨vb, 0, none⟩ = some x := cell_of HI4.out.2.1 rfl
        go_wp2_with fail
        go_quiet (fail)
        go_wp2_with fail
        go_ret2
        exact ⟨by rw [HGN.out]; rfl, HKK.out.trans (Fr.drewN _ _ _)⟩
    · rw [decide_eq_false hqp] at hEQ
      rw [if_neg hqp] at HGN
      clear hqp
      go_wp2_with fail
      go_quiet (fail)
      go_wp2_with fail
      go_ret2
      exact ⟨by rw [HGN.out]; rfl, HKK.out.trans (Fr.drewN _ _ _)⟩
end Go.Proofs.Ytnbohhiooigmbaa
