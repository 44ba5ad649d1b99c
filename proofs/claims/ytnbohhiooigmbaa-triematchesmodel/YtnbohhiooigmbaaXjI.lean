/-
  CONTRACT of without of package trie at one value type, over this seat's translation.
  Conditions: the tree lies in memory, the prefix is in it.
-/
import Derived.Test.YtnbohhiooigmbaaXcI
import Derived.Test.YtnbohhiooigmbaaMm
import Derived.Deep.DeepCutAuto
import Derived.Deep.CutBlock
namespace Go.Proofs.Ytnbohhiooigmbaa
open Go.ChangeShapes Go.WideShapes Go.ChangeAt Go.RowKit
set_option linter.unusedVariables false

theorem rt_ptrI (t : Tr) : ∃ o, rt t = .pointer o := by cases t <;> exact ⟨_, rfl⟩
set_option maxHeartbeats 8000000 in
set_option maxRecDepth 100000 in
theorem withoutI (p : Px) (hp : okP p) : ∀ (t : Tr) (w : World), In 81 3 w t → Wf t → (blk t).Nodup → p ∈ t.all →
    Calls Try.prog 41 #[rt t, .agg (pfx p.b p.xs p.n).toArray] w fun e w' => e = .returned (rt (wo p t)) ∧ In 81 3 w' (wo p t) ∧ Fr (fun k => k ∈ blk t) w w' := by
  intro t
  induction t with
  | nil => intro w _ _ _ h; cases h
  | node g q v l r ihl ihr =>
    intro w hi hw hn hpt
    obtain ⟨n1, n2, n3, n4, n5, n6, n7⟩ := nodup_parts hn
    obtain ⟨P, hP0, -, -, hPs, hPA, -⟩ := pfx_letter p.b p.xs p.n hp.1
    obtain ⟨B, hB, -, hBs, -⟩ := adr_letter p.b p.xs hp.1
    rw [hB] at hPA
    rw [hP0] at ihl ihr ⊢
    obtain ⟨K, hK, -, -, hKs, -, -⟩ := pfx_letter q.b q.xs q.n hw.1.1
    have hb0 := heap_alloc_new w (.cells P 31)
    have hF0 := Fr.alloc No w (.cells P 31)
    have hglt := some_lt hi.1
    have HB := Lib.hid (And.intro hb0 (And.intro hF0 (And.intro (adr_part hBs hPA) hB)))
    have HKC : Hid (∀ (j : Nat) (u : Value), K[j]? = some u → (cellsOf q v l r).toArray[0 + j]? = some u) := fun j u hu => cellsOf_pfx j u (by rw [hK]; exact hu)
    have HEQ : Hid (∀ w', Sem.run Try.prog (Op.equalIn 10000 31 (.agg K) (.agg P)) w' = .ok (decide (q = p)) w') := fun w' => by
      rw [← hK, ← hP0, pfx_eq q.n p.n hw.1.1 hp.1 w']
      congr 1
      exact decide_eq_decide.2 Px.eq_iff
    have HSD : Hid (∀ w', w'.heap[g]? = w.heap[g]? → Calls Try.prog 63 #[.pointer (some ⟨g, 0, none⟩), .agg B] w' fun e w'' => e = .returned (.pointer (some ⟨g, if sideB q p.b p.xs = true then 20 else 19, none⟩)) ∧ Fr No w' w'') := fun w' h => by rw [← hB]; exact sdI g q v l r p.b p.xs hw.1 hp.1 w' (h.trans hi.1)
    have HN := Lib.hid (And.intro n1 (And.intro n2 (And.intro n3 (And.intro n4 n7))))
    have HI := Lib.hid hi
    have HW := Lib.hid hw
    have HIL : Hid (p ∈ l.all → ∀ w', In 81 3 w' l → Calls Try.prog 41 #[rt l, .agg P] w' fun e w'' => e = .returned (rt (wo p l)) ∧ In 81 3 w'' (wo p l) ∧ Fr (fun k => k ∈ blk l) w' w'') := fun h w' h1 => ihl w' h1 hw.2.2.2.1 n5 h
    have HIR : Hid (p ∈ r.all → ∀ w', In 81 3 w' r → Calls Try.prog 41 #[rt r, .agg P] w' fun e w'' => e = .returned (rt (wo p r)) ∧ In 81 3 w'' (wo p r) ∧ Fr (fun k => k ∈ blk r) w' w'') := fun h w' h1 => ihr w' h1 hw.2.2.2.2 n6 h
    have q31 := Try.eqGuardType31
    have HPT := Lib.hid hpt
    have hEQ := HEQ.out
    rw [show rt (Tr.node g q v l r) = .pointer (some ⟨g, 0, none⟩) from rfl]
    clear hi hw hn n1 n2 n3 n4 n5 n6 n7 hP0 hB hPA hK hb0 hF0 ihl ihr hpt
    go_enter Try.func41, Try.ntmps41
    have t3 := Try.underlying3
    have u3 := Try.runUnderlying3
    have g3 := Try.isAgg3
    have z3 := Try.sizeOf3
    have t4 := Try.underlying4
    have u4 := Try.runUnderlying4
    have g4 := Try.isAgg4
    have z4 := Try.sizeOf4
    have t9 := Try.underlying9
    have u9 := Try.runUnderlying9
    have g9 := Try.isAgg9
    have z9 := Try.sizeOf9
    have t29 := Try.underlying29
    have u29 := Try.runUnderlying29
    have g29 := Try.isAgg29
    have z29 := Try.sizeOf29
    have t31 := Try.underlying31
    have u31 := Try.runUnderlying31
    have g31 := Try.isAgg31
    have z31 := Try.sizeOf31
    have t73 := Try.underlying73
    have u73 := Try.runUnderlying73
    have g73 := Try.isAgg73
    have z73 := Try.sizeOf73
    have t81 := Try.underlying81
    have u81 := Try.runUnderlying81
    have g81 := Try.isAgg81
    have z81 := Try.sizeOf81
    have t79 := Try.underlying79
    have u79 := Try.runUnderlying79
    have g79 := Try.isAgg79
    have z79 := Try.sizeOf79
    have t84 := Try.underlying84
    have u84 := Try.runUnderlying84
    have g84 := Try.isAgg84
    have z84 := Try.sizeOf84
    have t78 := Try.underlying78
    have u78 := Try.runUnderlying78
    have g78 := Try.isAgg78
    have z78 := Try.sizeOf78
    have c63 := Try.call63
    have c41 := Try.call41
    have mixed : Try.prog.follows .mixedOrders = true := by kernel_rfl
    obtain ⟨k30, hk30⟩ : ∃ k, k = 17 := ⟨_, rfl⟩
    rw [← hk30] at z29
    have nk30 : ¬ k30 = 0 := by omega
    have HK29 := Lib.hid hk30
    obtain ⟨k40, hk40⟩ : ∃ k, k = 18 := ⟨_, rfl⟩
    rw [← hk40] at z31
    have nk40 : ¬ k40 = 0 := by omega
    have HK31 := Lib.hid hk40
    have hP : Try.prog = PD := rfl
    rw [hP] at t3 u3 g3 z3 t4 u4 g4 z4 t9 u9 g9 z9 t29 u29 g29 z29 t31 u31 g31 z31 t73 u73 g73 z73 t81 u81 g81 z81 t79 u79 g79 z79 t84 u84 g84 z84 t78 u78 g78 z78 c63 c41 mixed q31 hEQ ⊢
    have HP := Lib.hid hP.symm
    clear hP hk30 hk40
    have hPk : P.size = k40 := by rw [HK31.out]; exact hPs
    have hBk : B.size = k30 := by rw [HK29.out]; exact hBs
    have hKk : K.size = k40 := by rw [HK31.out]; exact hKs
    clear hPs hBs hKs HEQ
    have HL : Hid (∀ w', Fr (fun k => k ∈ blk (.node g q v l r)) (w.alloc (.cells P 31)) w' → Sem.run PD (loadCellsFrom ⟨w.heap.size, 0, none⟩ 0 k40 #[]) w' = .ok P w' ∧ Sem.run PD (loadCellsFrom ⟨w.heap.size, 0, none⟩ 0 k30 #[]) w' = .ok B w') := fun w' hf => by
      have h1 : w'.heap[w.heap.size]? = some (.cells P 31 (0, 0)) := (hf.block _ (some_lt HB.out.1) (fun hc => by have := HI.out.lt _ hc; omega)).trans HB.out.1
      exact ⟨load_block h1 hPk (fun j v hv => by simpa using hv), load_block h1 hBk HB.out.2.2.1⟩
    have lP := fun m => (HL.out ((w.alloc (.cells P 31)).drewN m) (Fr.drewN _ _ _)).1
    have lq : ∀ m, Sem.run PD (loadCellsFrom ⟨g, 0, none⟩ 0 k40 #[]) ((w.alloc (.cells P 31)).drewN m) = .ok K ((w.alloc (.cells P 31)).drewN m) := fun m => load_block ((Fr.drewN No (w.alloc (.cells P 31)) m).keep (HB.out.2.1.keep HI.out.1)) hKk HKC.out
    by_cases hqp : q = p
    · rw [decide_eq_true hqp] at hEQ
      have HQP := Lib.hid hqp
      clear hqp
      go_wp2_with fail
      go_quiet (fail)
      rename Nat => nq
      obtain ⟨w5, hw5⟩ : ∃ w5, (w.alloc (.cells P 31)).drewN nq = w5 := ⟨_, rfl⟩
      rw [hw5]
      have W5 : Fr No w w5 := by rw [← hw5]; exact HB.out.2.1.trans (Fr.drewN _ _ _)
      have b5 := W5.keep HI.out.1
      have c5 := cell_of b5 (cellsOf_at HW.out.1.1 v l r).1
      have z5 := frozen_of_row w5 g 18 _ _ b5
      obtain ⟨w6, hw6⟩ : ∃ w6, w5.setCell ⟨g, 18, none⟩ (.pointer none) = w6 := ⟨_, rfl⟩
      have b6 : w6.heap[g]? = some (.cells (cellsOf q none l r).toArray 81 (0, 0)) := by rw [← hw6, setCell_same b5, ← cells_v HW.out.1.1 v none l r]; rfl
      have F6 : Fr (fun k => k = g) w w6 := by rw [← hw6]; exact W5.no.trans (Fr.setCell _ _ _ _ rfl)
      have H6 : Hid (In 81 3 w6 l ∧ In 81 3 w6 r ∧ Fr (fun k => k ∈ blk (.node g q v l r)) w w6) := ⟨HI.out.2.2.1.fr F6 fun k hk hc => HN.out.2.1 (hc ▸ hk), HI.out.2.2.2.fr F6 fun k hk hc => HN.out.2.2.1 (hc ▸ hk), F6.mono fun k _ hk => by rw [hk]; exact List.mem_cons_self⟩
      have c18 : w6.cell? ⟨g, 18, none⟩ = some (.pointer none) := cell_of b6 (cellsOf_at HW.out.1.1 none l r).1
      have c19 : w6.cell? ⟨g, 19, none⟩ = some (rt l) := cell_of b6 (cellsOf_at HW.out.1.1 none l r).2.1
      have c20 : w6.cell? ⟨g, 20, none⟩ = some (rt r) := cell_of b6 (cellsOf_at HW.out.1.1 none l r).2.2
      have HB6 := Lib.hid b6
      have HWO : Hid (wo p (.node g q v l r) = fix g q none l r) := by show _ = _; rw [wo, if_pos HQP.out]
      clear lP lq hw5 hEQ b5 b6 W5 F6 q31
      cases l <;> cases r
      all_goals (
        simp only [rt] at c19 c20
        go_wp2_with fail
        go_ret
        exact ⟨by rw [HWO.out]; rfl, by rw [HWO.out]; first | exact trivial | exact H6.out.1 | exact H6.out.2.1 | exact ⟨HB6.out, trivial, H6.out.1, H6.out.2.1⟩, H6.out.2.2⟩)
    · rw [decide_eq_false hqp] at hEQ
      have hm : p ∈ l.all ∨ p ∈ r.all := by
        rcases List.mem_cons.1 HPT.out with h | h
        · exact absurd h.symm hqp
        · exact List.mem_append.1 h
      have HQP := Lib.hid hqp
      clear hqp
      go_wp2_with fail
      go_quiet (fail)
      rename Nat => nq
      obtain ⟨w5, hw5⟩ : ∃ w5, (w.alloc (.cells P 31)).drewN nq = w5 := ⟨_, rfl⟩
      rw [hw5]
      have A5 : Fr No (w.alloc (.cells P 31)) w5 := by rw [← hw5]; exact Fr.drewN _ _ _
      have W5 : Fr No w w5 := HB.out.2.1.trans A5
      have lB5 := (HL.out w5 A5.no).2
      have HA5 := Lib.hid (And.intro A5 W5)
      clear lP lq hw5 hEQ q31 A5 W5
      rcases hm with hm | hm
      · obtain ⟨cv1, cv2, cv3⟩ := HW.out.2.1 p hm
        have hsd : sideB q p.b p.xs = false := by rw [side_cov HW.out.1 hp cv1 cv2]; exact cv3
        rw [hsd, if_neg (by decide)] at HSD
        have HWO : Hid (wo p (.node g q v l r) = fix g q v (wo p l) r) := by show _ = _; rw [wo, if_neg HQP.out, hsd, if_neg (by decide)]
        have HIC := Lib.hid (HIL.out hm)
        clear cv1 cv2 cv3 hsd hm HIL HIR
        go_wp2_with (first | (go_at_call 63; go_loud (refine (at_prog HP.out (HSD.out _ (HA5.out.2.block g hglt (fun h => h)))).mono ?_; rintro e w6 ⟨rfl, hf6⟩)) | fail)
        have A7 : Fr No w w6.drew := (HA5.out.2.trans hf6).trans (Fr.drew _ _)
        have b7 := A7.keep HI.out.1
        have c7 : w6.drew.cell? ⟨g, 19, none⟩ = some (rt l) := cell_of b7 (cellsOf_at HW.out.1.1 v l r).2.1
        have lP7 : Sem.run PD (loadCellsFrom ⟨w.heap.size, 0, none⟩ 0 k40 #[]) w6.drew = .ok P w6.drew := (HL.out w6.drew ((HA5.out.1.trans hf6).trans (Fr.drew _ _)).no).1
        have HIC7 : Hid (Calls Try.prog 41 #[rt l, .agg P] w6.drew fun e w'' => e = .returned (rt (wo p l)) ∧ In 81 3 w'' (wo p l) ∧ Fr (fun k => k ∈ blk l) w6.drew w'') := HIC.out w6.drew (HI.out.2.2.1.no A7)
        obtain ⟨ol, hol⟩ := rt_ptrI l
        obtain ⟨ow, how⟩ := rt_ptrI (wo p l)
        have HO := Lib.hid (And.intro hol how)
        rw [hol] at c7 HIC7
        rw [how] at HIC7
        have HX7 := Lib.hid (And.intro A7 b7)
        clear hol how
        go_cut [5] (fun s5 wx => Hid (∃ w8 : World, In 81 3 w8 (wo p l) ∧ Fr (fun k => k ∈ blk l) w6.drew w8 ∧ wx = w8.setCell ⟨g, 19, none⟩ (.pointer ow)))
        case first =>
          go_region_with (first | (go_at_call 41; go_loud (refine (at_prog HP.out HIC7.out).mono ?_; rintro e w8 ⟨rfl, hin8, hf8⟩; have b8 := (hf8.block g (some_lt HX7.out.2) HN.out.2.1).trans HX7.out.2; have c8 : w8.cell? ⟨g, 19, none⟩ = some (.pointer ol) := (by rw [← HO.out.1]; exact cell_of b8 (cellsOf_at HW.out.1.1 v l r).2.1); have z8 := frozen_of_row w8 g 19 _ _ b8; clear b8)))
          all_goals (
            go_wp2_with fail
            go_meet
            exact ⟨w8, hin8, hf8, rfl⟩)
        case rest =>
          obtain ⟨w8, hin8, hf8, hwx⟩ := hcut
          replace hwx := hwx.symm
          have b8 := (hf8.block g (some_lt HX7.out.2) HN.out.2.1).trans HX7.out.2
          have b9 : wc.heap[g]? = some (.cells (cellsOf q v (wo p l) r).toArray 81 (0, 0)) := by rw [← hwx, setCell_same b8, ← HO.out.2, cells_l HW.out.1.1 v l r (wo p l)]
          have F9 : Fr (fun k => k ∈ blk (.node g q v l r)) w wc := by
            rw [← hwx]
            exact (HX7.out.1.no.trans (hf8.mono fun k _ hk => List.mem_cons_of_mem _ (List.mem_append.2 (.inr (List.mem_append.2 (.inl hk)))))).trans (Fr.setCell _ _ _ _ List.mem_cons_self)
          have E9 : Fr (fun k => k = g ∨ k ∈ blk l) w6.drew wc := by
            rw [← hwx]
            exact (hf8.mono fun k _ hk => .inr hk).trans (Fr.setCell _ _ _ _ (.inl rfl))
          have io : In 81 3 wc r := (HI.out.2.2.2.no HX7.out.1).fr E9 fun k hk hc => by
            rcases hc with hc | hc
            · exact HN.out.2.2.1 (hc ▸ hk)
            · exact HN.out.2.2.2.2 k hc hk
          have iv : VAt 3 wc v := HI.out.2.1.keep fun k hk => by
            have hkl : k < w.heap.size := HI.out.lt k (List.mem_cons_of_mem _ (List.mem_append.2 (.inl hk)))
            rw [E9.block k (Nat.lt_of_lt_of_le hkl HX7.out.1.size) (fun hc => ?_), HX7.out.1.block k hkl (fun h => h)]
            rcases hc with hc | hc
            · exact HN.out.1 (hc ▸ hk)
            · exact (HN.out.2.2.2.1 k hk).1 hc
          have iw : In 81 3 wc (wo p l) := by
            rw [← hwx]
            refine hin8.keep fun k hk => setCell_other _ fun hc => ?_
            exact HN.out.2.1 ((wo_sub l).subset (hc ▸ hk))
          have c18 := cell_of b9 (cellsOf_at HW.out.1.1 v (wo p l) r).1
          have c19 := cell_of b9 (cellsOf_at HW.out.1.1 v (wo p l) r).2.1
          have c20 := cell_of b9 (cellsOf_at HW.out.1.1 v (wo p l) r).2.2
          have H9 := Lib.hid (And.intro b9 (And.intro F9 (And.intro io (And.intro iv iw))))
          clear b8 b9 F9 E9 io iv iw hin8 hf8 hwx c7 lP7 HIC7 HIC HSD HPT HI HW HX7 HO A7 b7 hf6 HN HKC HL HB lB5 HA5
          have HWG := HWO
          clear HWO
          generalize wo p l = nl at *
          cases v <;> cases nl <;> cases r
          all_goals (
            simp only [rt, vp] at c18 c19 c20
            go_wp2_with fail
            go_ret
            exact ⟨by rw [HWG.out]; rfl, by rw [HWG.out]; first | exact trivial | exact H9.out.2.2.1 | exact H9.out.2.2.2.2 | exact ⟨H9.out.1, H9.out.2.2.2.1, H9.out.2.2.2.2, H9.out.2.2.1⟩, H9.out.2.1⟩)
      · obtain ⟨cv1, cv2, cv3⟩ := HW.out.2.2.1 p hm
        have hsd : sideB q p.b p.xs = true := by rw [side_cov HW.out.1 hp cv1 cv2]; exact cv3
        rw [hsd, if_pos rfl] at HSD
        have HWO : Hid (wo p (.node g q v l r) = fix g q v l (wo p r)) := by show _ = _; rw [wo, if_neg HQP.out, hsd, if_pos rfl]
        have HIC := Lib.hid (HIR.out hm)
        clear cv1 cv2 cv3 hsd hm HIL HIR
        go_wp2_with (first | (go_at_call 63; go_loud (refine (at_prog HP.out (HSD.out _ (HA5.out.2.block g hglt (fun h => h)))).mono ?_; rintro e w6 ⟨rfl, hf6⟩)) | fail)
        have A7 : Fr No w w6.drew := (HA5.out.2.trans hf6).trans (Fr.drew _ _)
        have b7 := A7.keep HI.out.1
        have c7 : w6.drew.cell? ⟨g, 20, none⟩ = some (rt r) := cell_of b7 (cellsOf_at HW.out.1.1 v l r).2.2
        have lP7 : Sem.run PD (loadCellsFrom ⟨w.heap.size, 0, none⟩ 0 k40 #[]) w6.drew = .ok P w6.drew := (HL.out w6.drew ((HA5.out.1.trans hf6).trans (Fr.drew _ _)).no).1
        have HIC7 : Hid (Calls Try.prog 41 #[rt r, .agg P] w6.drew fun e w'' => e = .returned (rt (wo p r)) ∧ In 81 3 w'' (wo p r) ∧ Fr (fun k => k ∈ blk r) w6.drew w'') := HIC.out w6.drew (HI.out.2.2.2.no A7)
        obtain ⟨ol, hol⟩ := rt_ptrI r
        obtain ⟨ow, how⟩ := rt_ptrI (wo p r)
        have HO := Lib.hid (And.intro hol how)
        rw [hol] at c7 HIC7
        rw [how] at HIC7
        have HX7 := Lib.hid (And.intro A7 b7)
        clear hol how
        go_cut [5] (fun s5 wx => Hid (∃ w8 : World, In 81 3 w8 (wo p r) ∧ Fr (fun k => k ∈ blk r) w6.drew w8 ∧ wx = w8.setCell ⟨g, 20, none⟩ (.pointer ow)))
        case first =>
          go_region_with (first | (go_at_call 41; go_loud (refine (at_prog HP.out HIC7.out).mono ?_; rintro e w8 ⟨rfl, hin8, hf8⟩; have b8 := (hf8.block g (some_lt HX7.out.2) HN.out.2.2.1).trans HX7.out.2; have c8 : w8.cell? ⟨g, 20, none⟩ = some (.pointer ol) := (by rw [← HO.out.1]; exact cell_of b8 (cellsOf_at HW.out.1.1 v l r).2.2); have z8 := frozen_of_row w8 g 20 _ _ b8; clear b8)))
          all_goals (
            go_wp2_with fail
            go_meet
            exact ⟨w8, hin8, hf8, rfl⟩)
        case rest =>
          obtain ⟨w8, hin8, hf8, hwx⟩ := hcut
          replace hwx := hwx.symm
          have b8 := (hf8.block g (some_lt HX7.out.2) HN.out.2.2.1).trans HX7.out.2
          have b9 : wc.heap[g]? = some (.cells (cellsOf q v l (wo p r)).toArray 81 (0, 0)) := by rw [← hwx, setCell_same b8, ← HO.out.2, cells_r HW.out.1.1 v l r (wo p r)]
          have F9 : Fr (fun k => k ∈ blk (.node g q v l r)) w wc := by
            rw [← hwx]
            exact (HX7.out.1.no.trans (hf8.mono fun k _ hk => List.mem_cons_of_mem _ (List.mem_append.2 (.inr (List.mem_append.2 (.inr hk)))))).trans (Fr.setCell _ _ _ _ List.mem_cons_self)
          have E9 : Fr (fun k => k = g ∨ k ∈ blk r) w6.drew wc := by
            rw [← hwx]
            exact (hf8.mono fun k _ hk => .inr hk).trans (Fr.setCell _ _ _ _ (.inl rfl))
          have io : In 81 3 wc l := (HI.out.2.2.1.no HX7.out.1).fr E9 fun k hk hc => by
            rcases hc with hc | hc
            · exact HN.out.2.1 (hc ▸ hk)
            · exact HN.out.2.2.2.2 k hk hc
          have iv : VAt 3 wc v := HI.out.2.1.keep fun k hk => by
            have hkl : k < w.heap.size := HI.out.lt k (List.mem_cons_of_mem _ (List.mem_append.2 (.inl hk)))
            rw [E9.block k (Nat.lt_of_lt_of_le hkl HX7.out.1.size) (fun hc => ?_), HX7.out.1.block k hkl (fun h => h)]
            rcases hc with hc | hc
            · exact HN.out.1 (hc ▸ hk)
            · exact (HN.out.2.2.2.1 k hk).2 hc
          have iw : In 81 3 wc (wo p r) := by
            rw [← hwx]
            refine hin8.keep fun k hk => setCell_other _ fun hc => ?_
            exact HN.out.2.2.1 ((wo_sub r).subset (hc ▸ hk))
          have c18 := cell_of b9 (cellsOf_at HW.out.1.1 v l (wo p r)).1
          have c19 := cell_of b9 (cellsOf_at HW.out.1.1 v l (wo p r)).2.1
          have c20 := cell_of b9 (cellsOf_at HW.out.1.1 v l (wo p r)).2.2
          have H9 := Lib.hid (And.intro b9 (And.intro F9 (And.intro io (And.intro iv iw))))
          clear b8 b9 F9 E9 io iv iw hin8 hf8 hwx c7 lP7 HIC7 HIC HSD HPT HI HW HX7 HO A7 b7 hf6 HN HKC HL HB lB5 HA5
          have HWG := HWO
          clear HWO
          generalize wo p r = nr at *
          cases v <;> cases l <;> cases nr
          all_goals (
            simp only [rt, vp] at c18 c19 c20
            go_wp2_with fail
            go_ret
            exact ⟨by rw [HWG.out]; rfl, by rw [HWG.out]; first | exact trivial | exact H9.out.2.2.1 | exact H9.out.2.2.2.2 | exact ⟨H9.out.1, H9.out.2.2.2.1, H9.out.2.2.1, H9.out.2.2.2.2⟩, H9.out.2.1⟩)
end Go.Proofs.Ytnbohhiooigmbaa
