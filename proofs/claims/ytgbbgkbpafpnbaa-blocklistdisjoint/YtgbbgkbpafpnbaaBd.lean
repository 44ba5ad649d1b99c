/-
  THE LAW BlocklistDisjoint: its walk.
  Conditions: none.
-/
import Derived.Test.YtgbbgkbpafpnbaaBw
import Derived.Test.YtgbbgkbpafpnbaaGa
namespace Go.Proofs.Ytgbbgkbpafpnbaa
open Go.ChangeShapes Go.WideShapes Go.ChangeAt Go.RowKit
set_option linter.unusedVariables false

theorem own_block {w : World} {base g : Nat} (hb : base ≤ g) (h : w.heap[g]? = some (.cells (flatP PL).toArray 28 (0, 0))) : w.ownsRow base 28 18 (.slice (some ⟨g, 0, none⟩) 15 15) 15 (flatP PL) :=
  ⟨flatP_length PL_bytes, .inr ⟨g, 15, _, rfl, hb, h, Nat.le_refl _, by unfold maxLen; omega, by rw [List.size_toArray]; exact flatP_length PL_bytes, List.take_of_length_le (by rw [show (flatP PL).length = 15 * 18 from flatP_length PL_bytes]; exact Nat.le_refl _)⟩⟩
set_option maxHeartbeats 4000000 in
set_option maxRecDepth 100000 in
theorem disjoint_walk (m n : Int) (w : World) :
    Calls Try.prog 4 #[.int .i64 m, .int .i64 n] w fun e w' => e = .returned (.bool true) ∧ Fr No w w' := by
  obtain ⟨i, hi, hmi⟩ := mod_fix m 15 (by decide) (by decide)
  obtain ⟨j, hj, hmj⟩ := mod_fix n 15 (by decide) (by decide)
  have HMI : Hid (∀ w', Calls Try.prog 7 #[.int .i64 m, .int .i64 15] w' fun e w'' => e = .returned (.int .i64 (i : Int)) ∧ w'' = w') := fun w' => hmi w'
  have HMJ : Hid (∀ w', Calls Try.prog 7 #[.int .i64 n, .int .i64 15] w' fun e w'' => e = .returned (.int .i64 (j : Int)) ∧ w'' = w') := fun w' => hmj w'
  clear hmi hmj
  obtain ⟨-, p, -, gp, -, -, -, okp⟩ := bl_at hi
  obtain ⟨-, q, -, gq, -, -, -, okq⟩ := bl_at hj
  obtain ⟨P, hP, -, -, hPs, -, -⟩ := pfx_letter p.b p.xs p.n okp.1
  obtain ⟨Q, hQ, -, -, hQs, -, -⟩ := pfx_letter q.b q.xs q.n okq.1
  have HCV : Hid (i ≠ j → ∀ w', Calls Try.prog 18 #[.agg P, .agg Q] w' fun e w'' => e = .returned (.bool false) ∧ Fr No w' w'') := fun hij w' => by
    rw [← hP, ← hQ]
    exact covers_no p q okp okq (bl_apart i hi j hj hij p q gp gq) w'
  have HOV : Hid (∀ (w' : World) (g base : Nat), base ≤ g → base ≤ w'.heap.size → w'.heap[g]? = some (.cells (flatP PL).toArray 28 (0, 0)) → Calls Try.prog 15 #[.slice (some ⟨g, 0, none⟩) 15 15] w' fun e w'' => e = .returned (.tuple #[]) ∧ Fr (fun k => base ≤ k) w' w'') := fun w' g base h1 h2 h3 =>
    overwrite_any (own_block h1 h3) (by omega) h2
  have HEQ : Hid (∀ (w' : World) (g : Nat) (ad : Option Addr) (cp : Nat), w'.heap[g]? = some (.cells (flatP PL).toArray 28 (0, 0)) → RowP w' ad PL → Calls Try.prog 17 #[.slice (some ⟨g, 0, none⟩) 15 15, .slice ad 15 cp] w' fun e w'' => e = .returned (.bool true) ∧ Fr No w' w'') := fun w' g ad cp h1 h2 => by
    have h := equal_any _ ad 15 15 15 cp PL PL w' (rowP_block h1) h2 rfl rfl (by decide)
    rw [decide_eq_true rfl] at h
    exact h
  have HLD : Hid (∀ (w' : World) (g : Nat), w'.heap[g]? = some (.cells (flatP PL).toArray 28 (0, 0)) → Sem.run PD (loadCellsFrom ⟨g, i * 18, none⟩ 0 18 #[]) w' = .ok P w' ∧ Sem.run PD (loadCellsFrom ⟨g, j * 18, none⟩ 0 18 #[]) w' = .ok Q w') := fun w' g h => by
    obtain ⟨b1, o1, e1, l1⟩ := (rowP_block h).load gp
    obtain ⟨b2, o2, e2, l2⟩ := (rowP_block h).load gq
    cases e1; cases e2
    have h1 := l1 PD w' (Fr.refl _ _)
    have h2 := l2 PD w' (Fr.refl _ _)
    rw [Nat.zero_add] at h1 h2
    rw [← hP, ← hQ]
    exact ⟨h1, h2⟩
  clear gp gq okp okq hP hQ
  go_enter Try.func4, Try.ntmps4
  have t3 := Try.underlying3
  have u3 := Try.runUnderlying3
  have g3 := Try.isAgg3
  have z3 := Try.sizeOf3
  have t4 := Try.underlying4
  have u4 := Try.runUnderlying4
  have g4 := Try.isAgg4
  have z4 := Try.sizeOf4
  have t24 := Try.underlying24
  have u24 := Try.runUnderlying24
  have g24 := Try.isAgg24
  have z24 := Try.sizeOf24
  have t25 := Try.underlying25
  have u25 := Try.runUnderlying25
  have g25 := Try.isAgg25
  have z25 := Try.sizeOf25
  have t28 := Try.underlying28
  have u28 := Try.runUnderlying28
  have g28 := Try.isAgg28
  have z28 := Try.sizeOf28
  have c6 := Try.call6
  have c7 := Try.call7
  have c10 := Try.call10
  have c15 := Try.call15
  have c16 := Try.call16
  have c17 := Try.call17
  have c18 := Try.call18
  have mixed : Try.prog.follows .mixedOrders = true := by kernel_rfl
  obtain ⟨k40, hk40⟩ : ∃ k, k = 18 := ⟨_, rfl⟩
  rw [← hk40] at z28
  have nk40 : ¬ k40 = 0 := by omega
  have HK28 := Lib.hid hk40
  have hP : Try.prog = PD := rfl
  rw [hP] at t3 u3 g3 z3 t4 u4 g4 z4 t24 u24 g24 z24 t25 u25 g25 z25 t28 u28 g28 z28 c6 c7 c10 c15 c16 c17 c18 mixed ⊢
  have HP := Lib.hid hP.symm
  clear hP hk40
  have hPk : P.size = k40 := by rw [HK28.out]; exact hPs
  have hQk : Q.size = k40 := by rw [HK28.out]; exact hQs
  clear hPs hQs
  have p1 : (0 : Int) ≤ (i : Int) := by omega
  have p2 : (i : Int) < 15 := by omega
  have p3 : (0 : Int) ≤ (j : Int) := by omega
  have p4 : (j : Int) < 15 := by omega
  go_upto_region 7 with (first | (go_at_call 16; first | ((with_reducible refine (at_prog HP.out (prefixes_any w)).mono ?_); rintro e w1 ⟨g1, rfl, hg1, hk1, hf1⟩) | ((refine (at_prog HP.out (prefixes_any w2)).mono ?_); rintro e w3 ⟨g2, rfl, hg2, hk2, hf3⟩)) | (go_at_call 15; ((refine (at_prog HP.out (HOV.out w1 g1 w.heap.size hg1 hf1.size hk1)).mono ?_); rintro e w2 ⟨rfl, hf2⟩)) | (go_at_call 6; ((with_reducible refine (at_prog HP.out (blocked_any w3)).mono ?_); rintro e w4 ⟨ad, cp, rfl, ho4, hf4⟩)) | (go_at_call 17; ((with_reducible refine (at_prog HP.out (HEQ.out w4 g2 ad cp (hf4.keep hk2) (RowP.own PL_bytes ho4).1)).mono ?_); rintro e w5 ⟨rfl, hf5⟩)) | (go_at_call 7; first | ((with_reducible refine (at_prog HP.out (HMI.out _)).mono ?_); rintro e wn ⟨rfl, hwn⟩; replace hwn := hwn.symm; subst hwn) | ((with_reducible refine (at_prog HP.out (HMJ.out _)).mono ?_); rintro e wn ⟨rfl, hwn⟩; replace hwn := hwn.symm; subst hwn)) | fail)
  have HW : Hid (Fr No w w5 ∧ w5.heap[g2]? = some (.cells (flatP PL).toArray 28 (0, 0))) := ⟨(((hf1.ofNew hf2 fun k hk => .inr hk).trans hf3).trans hf4).trans hf5, (hf4.trans hf5).keep hk2⟩
  have HS : Hid (∀ w', Fr No w5 w' → Fr No w5 w' ∧ Sem.run PD (loadCellsFrom ⟨g2, i * k40, none⟩ 0 k40 #[]) w' = .ok P w' ∧ Sem.run PD (loadCellsFrom ⟨g2, j * k40, none⟩ 0 k40 #[]) w' = .ok Q w') := fun w' h => ⟨h, by rw [HK28.out]; exact (HLD.out w' g2 (h.keep HW.out.2)).1, by rw [HK28.out]; exact (HLD.out w' g2 (h.keep HW.out.2)).2⟩
  clear hf1 hf2 hf3 hf4 hf5 hk1 hk2 ho4 hg1 hg2
  have f1 := HS.out _ (Fr.drew No w5)
  by_cases hij : i = j
  · subst hij
    have q0 : i = i := rfl
    clear q0
    have hS0 : Fr No w5 w5.drew := Fr.drew No w5
    have q1 : ((i : Int) == (i : Int)) = true := by simp
    refine wp_region_noPanic ?_
    refine wp_region_held_drew (S := (fun w' => Fr No w5 w')) (by kernel_rfl) hS0 (fun hHeld => ?_)
    refine wpAnyH_ready (rs := [0]) (by kernel_rfl) (by simp) ?_
    refine AllReadyH.cons (o := { dst := some 25, op := Op.call { callee := Callee.value (Operand.func 10), args := #[], argTypes := #[] }, type := 4, pos := "law.go:42", after := #[], guard := none }) rfl (fun K hK => ?_) AllReadyH.nil
    go_simp
    go_at_call 10
    refine (at_prog HP.out (bawake_any _)).mono ?_
    rintro e w6 ⟨rfl, hf6⟩
    have K6 : Fr No w5 w6 := (Fr.drew No w5).trans hf6
    have hS : Fr No w5 w6 := K6
    refine hK.out _ _ hS (fun hH2 => ?_)
    clear hK K hHeld
    have hHeld := hH2
    clear hH2 hS
    try simp only [Act.put, List.setIfInBounds_toArray, List.set_cons_zero, List.set_cons_succ]
    refine wpAnyH_take (i := 1) (oi := { dst := some 26, op := Op.move (Operand.tmp 25), type := 4, pos := "law.go:42", after := #[{ on := 0, ground := Ground.data }, { on := 0, ground := Ground.chain }], guard := none }) (v := ?v1) rfl (by kernel_rfl) (by kernel_rfl) (by kernel_rfl) (fun _ _ _ h => h) (Or.inl ⟨by rfl, ?hy1⟩) hHeld ?nx1
    case hy1 => (intro w hSw; (try dsimp only at hSw); go_simp; try with_reducible rfl)
    try simp only [Act.put, List.setIfInBounds_toArray, List.set_cons_zero, List.set_cons_succ]
    refine wpAnyH_take (i := 2) (oi := { dst := some 27, op := Op.move (Operand.tmp 7), type := 3, pos := "law.go:42", after := #[{ on := 1, ground := Ground.guard }], guard := some (1, true) }) (v := ?v2) rfl (by kernel_rfl) (by kernel_rfl) (by kernel_rfl) (fun _ _ _ h => h) (Or.inl ⟨by rfl, ?hy2⟩) hHeld ?nx2
    case hy2 => (intro w hSw; (try dsimp only at hSw); go_simp; try with_reducible rfl)
    try simp only [Act.put, List.setIfInBounds_toArray, List.set_cons_zero, List.set_cons_succ]
    refine wpAnyH_take (i := 3) (oi := { dst := some 28, op := Op.move (Operand.tmp 8), type := 3, pos := "law.go:42", after := #[{ on := 1, ground := Ground.guard }], guard := some (1, true) }) (v := ?v3) rfl (by kernel_rfl) (by kernel_rfl) (by kernel_rfl) (fun _ _ _ h => h) (Or.inl ⟨by rfl, ?hy3⟩) hHeld ?nx3
    case hy3 => (intro w hSw; (try dsimp only at hSw); go_simp; try with_reducible rfl)
    try simp only [Act.put, List.setIfInBounds_toArray, List.set_cons_zero, List.set_cons_succ]
    refine wpAnyH_take (i := 4) (oi := { dst := some 29, op := Op.binOp BinOp.eql 3 (Operand.tmp 27) (Operand.tmp 28) 3, type := 4, pos := "law.go:42", after := #[{ on := 2, ground := Ground.data }, { on := 3, ground := Ground.data }, { on := 1, ground := Ground.guard }], guard := some (1, true) }) (v := ?v4) rfl (by kernel_rfl) (by kernel_rfl) (by kernel_rfl) (fun _ _ _ h => h) (Or.inl ⟨by rfl, ?hy4⟩) hHeld ?nx4
    case hy4 => (intro w hSw; (try dsimp only at hSw); go_simp; try with_reducible rfl)
    try simp only [Act.put, List.setIfInBounds_toArray, List.set_cons_zero, List.set_cons_succ]
    refine wpAnyH_take (i := 5) (oi := { dst := some 30, op := Op.move (Operand.tmp 29), type := 4, pos := "law.go:42", after := #[{ on := 4, ground := Ground.data }, { on := 1, ground := Ground.chain }, { on := 1, ground := Ground.guard }], guard := some (1, true) }) (v := ?v5) rfl (by kernel_rfl) (by kernel_rfl) (by kernel_rfl) (fun _ _ _ h => h) (Or.inl ⟨by rfl, ?hy5⟩) hHeld ?nx5
    case hy5 => (intro w hSw; (try dsimp only at hSw); go_simp; try with_reducible rfl)
    try simp only [Act.put, List.setIfInBounds_toArray, List.set_cons_zero, List.set_cons_succ]
    refine wpAnyH_take (i := 6) (oi := { dst := some 31, op := Op.move (Operand.tmp 5), type := 25, pos := "law.go:42", after := #[{ on := 5, ground := Ground.guard }], guard := some (5, false) }) (v := undef) rfl (by kernel_rfl) (by kernel_rfl) (by kernel_rfl) (fun _ _ _ h => h) (Or.inr ⟨by rfl, rfl⟩) hHeld ?nx6
    try simp only [Act.put, List.setIfInBounds_toArray, List.set_cons_zero, List.set_cons_succ]
    refine wpAnyH_take (i := 7) (oi := { dst := some 32, op := Op.move (Operand.tmp 7), type := 3, pos := "law.go:42", after := #[{ on := 5, ground := Ground.guard }], guard := some (5, false) }) (v := undef) rfl (by kernel_rfl) (by kernel_rfl) (by kernel_rfl) (fun _ _ _ h => h) (Or.inr ⟨by rfl, rfl⟩) hHeld ?nx7
    try simp only [Act.put, List.setIfInBounds_toArray, List.set_cons_zero, List.set_cons_succ]
    refine wpAnyH_take (i := 8) (oi := { dst := some 33, op := Op.indexAddr 25 (Operand.tmp 31) (Operand.tmp 32), type := 0, pos := "law.go:42", after := #[{ on := 6, ground := Ground.data }, { on := 7, ground := Ground.data }, { on := 5, ground := Ground.guard }], guard := some (5, false) }) (v := undef) rfl (by kernel_rfl) (by kernel_rfl) (by kernel_rfl) (fun _ _ _ h => h) (Or.inr ⟨by rfl, rfl⟩) hHeld ?nx8
    try simp only [Act.put, List.setIfInBounds_toArray, List.set_cons_zero, List.set_cons_succ]
    refine wpAnyH_take (i := 9) (oi := { dst := some 34, op := Op.load 28 (Operand.tmp 33), type := 28, pos := "law.go:42", after := #[{ on := 8, ground := Ground.data }, { on := 5, ground := Ground.guard }], guard := some (5, false) }) (v := undef) rfl (by kernel_rfl) (by kernel_rfl) (by kernel_rfl) (fun _ _ _ h => h) (Or.inr ⟨by rfl, rfl⟩) hHeld ?nx9
    try simp only [Act.put, List.setIfInBounds_toArray, List.set_cons_zero, List.set_cons_succ]
    refine wpAnyH_take (i := 10) (oi := { dst := some 35, op := Op.move (Operand.tmp 5), type := 25, pos := "law.go:42", after := #[{ on := 5, ground := Ground.guard }], guard := some (5, false) }) (v := undef) rfl (by kernel_rfl) (by kernel_rfl) (by kernel_rfl) (fun _ _ _ h => h) (Or.inr ⟨by rfl, rfl⟩) hHeld ?nx10
    try simp only [Act.put, List.setIfInBounds_toArray, List.set_cons_zero, List.set_cons_succ]
    refine wpAnyH_take (i := 11) (oi := { dst := some 36, op := Op.move (Operand.tmp 8), type := 3, pos := "law.go:42", after := #[{ on := 5, ground := Ground.guard }], guard := some (5, false) }) (v := undef) rfl (by kernel_rfl) (by kernel_rfl) (by kernel_rfl) (fun _ _ _ h => h) (Or.inr ⟨by rfl, rfl⟩) hHeld ?nx11
    try simp only [Act.put, List.setIfInBounds_toArray, List.set_cons_zero, List.set_cons_succ]
    refine wpAnyH_take (i := 12) (oi := { dst := some 37, op := Op.indexAddr 25 (Operand.tmp 35) (Operand.tmp 36), type := 0, pos := "law.go:42", after := #[{ on := 10, ground := Ground.data }, { on := 11, ground := Ground.data }, { on := 5, ground := Ground.guard }], guard := some (5, false) }) (v := undef) rfl (by kernel_rfl) (by kernel_rfl) (by kernel_rfl) (fun _ _ _ h => h) (Or.inr ⟨by rfl, rfl⟩) hHeld ?nx12
    try simp only [Act.put, List.setIfInBounds_toArray, List.set_cons_zero, List.set_cons_succ]
    refine wpAnyH_take (i := 13) (oi := { dst := some 38, op := Op.load 28 (Operand.tmp 37), type := 28, pos := "law.go:42", after := #[{ on := 12, ground := Ground.data }, { on := 5, ground := Ground.guard }], guard := some (5, false) }) (v := undef) rfl (by kernel_rfl) (by kernel_rfl) (by kernel_rfl) (fun _ _ _ h => h) (Or.inr ⟨by rfl, rfl⟩) hHeld ?nx13
    try simp only [Act.put, List.setIfInBounds_toArray, List.set_cons_zero, List.set_cons_succ]
    refine wpAnyH_take (i := 14) (oi := { dst := some 39, op := Op.call { callee := Callee.value (Operand.func 18), args := #[Operand.tmp 34, Operand.tmp 38], argTypes := #[28, 28] }, type := 4, pos := "law.go:42", after := #[{ on := 9, ground := Ground.data }, { on := 13, ground := Ground.data }, { on := 5, ground := Ground.chain }, { on := 5, ground := Ground.guard }], guard := some (5, false) }) (v := undef) rfl (by kernel_rfl) (by kernel_rfl) (by kernel_rfl) (fun _ _ _ h => h) (Or.inr ⟨by rfl, rfl⟩) hHeld ?nx14
    try simp only [Act.put, List.setIfInBounds_toArray, List.set_cons_zero, List.set_cons_succ]
    refine wpAnyH_take (i := 15) (oi := { dst := some 40, op := Op.unOp UnOp.not 4 (Operand.tmp 39), type := 4, pos := "law.go:42", after := #[{ on := 14, ground := Ground.data }, { on := 5, ground := Ground.guard }], guard := some (5, false) }) (v := undef) rfl (by kernel_rfl) (by kernel_rfl) (by kernel_rfl) (fun _ _ _ h => h) (Or.inr ⟨by rfl, rfl⟩) hHeld ?nx15
    try simp only [Act.put, List.setIfInBounds_toArray, List.set_cons_zero, List.set_cons_succ]
    refine wpAnyH_take (i := 16) (oi := { dst := some 41, op := Op.pick (Operand.tmp 30) (Operand.const (Value.bool true)) (Operand.tmp 40), type := 4, pos := "law.go:42", after := #[{ on := 5, ground := Ground.data }, { on := 15, ground := Ground.data }, { on := 1, ground := Ground.guard }], guard := some (1, true) }) (v := ?v16) rfl (by kernel_rfl) (by kernel_rfl) (by kernel_rfl) (fun _ _ _ h => h) (Or.inl ⟨by rfl, ?hy16⟩) hHeld ?nx16
    case hy16 => (intro w hSw; (try dsimp only at hSw); go_simp; try with_reducible rfl)
    try simp only [Act.put, List.setIfInBounds_toArray, List.set_cons_zero, List.set_cons_succ]
    refine wpAnyH_take (i := 17) (oi := { dst := some 42, op := Op.pick (Operand.tmp 26) (Operand.tmp 41) (Operand.const (Value.bool false)), type := 4, pos := "law.go:42", after := #[{ on := 1, ground := Ground.data }, { on := 16, ground := Ground.data }], guard := none }) (v := ?v17) rfl (by kernel_rfl) (by kernel_rfl) (by kernel_rfl) (fun _ _ _ h => h) (Or.inl ⟨by rfl, ?hy17⟩) hHeld ?nx17
    case hy17 => (intro w hSw; (try dsimp only at hSw); go_simp; try with_reducible rfl)
    try simp only [Act.put, List.setIfInBounds_toArray, List.set_cons_zero, List.set_cons_succ]
    refine wpAnyH_take (i := 18) (oi := { dst := some 4, op := Op.assign (Operand.tmp 42), type := 4, pos := "law.go:42", after := #[{ on := 17, ground := Ground.data }, { on := 14, ground := Ground.chain }, { on := 0, ground := Ground.phase }, { on := 1, ground := Ground.phase }, { on := 2, ground := Ground.phase }, { on := 3, ground := Ground.phase }, { on := 4, ground := Ground.phase }, { on := 5, ground := Ground.phase }, { on := 6, ground := Ground.phase }, { on := 7, ground := Ground.phase }, { on := 8, ground := Ground.phase }, { on := 9, ground := Ground.phase }, { on := 10, ground := Ground.phase }, { on := 11, ground := Ground.phase }, { on := 12, ground := Ground.phase }, { on := 13, ground := Ground.phase }, { on := 14, ground := Ground.phase }, { on := 15, ground := Ground.phase }, { on := 16, ground := Ground.phase }, { on := 17, ground := Ground.phase }], guard := none }) (v := ?v18) rfl (by kernel_rfl) (by kernel_rfl) (by kernel_rfl) (fun _ _ _ h => h) (Or.inl ⟨by rfl, ?hy18⟩) hHeld ?nx18
    case hy18 => (intro w hSw; (try dsimp only at hSw); go_simp; try with_reducible rfl)
    try simp only [Act.put, List.setIfInBounds_toArray, List.set_cons_zero, List.set_cons_succ]
    refine wpAnyH_done (by kernel_rfl) ?_ _
    refine NoPanic.normal ?_
    go_wp2_with fail
    go_ret
    exact ⟨rfl, HW.out.1.trans K6⟩
  · have HC := Lib.hid (HCV.out hij)
    have q1 : ((i : Int) == (j : Int)) = false := by simpa using (by omega : ¬ (i : Int) = (j : Int))
    have q2 : ¬ (i : Int) = (j : Int) := by omega
    go_region_held3 (fun w' => Fr No w5 w' ∧ Sem.run PD (loadCellsFrom ⟨g2, i * k40, none⟩ 0 k40 #[]) w' = .ok P w' ∧ Sem.run PD (loadCellsFrom ⟨g2, j * k40, none⟩ 0 k40 #[]) w' = .ok Q w') (first | assumption | (with_reducible exact HS.out _ K6) | (with_reducible exact HS.out _ K7)) (first | (go_at_call 10; ((with_reducible refine (at_prog HP.out (bawake_any _)).mono ?_); rintro e w6 ⟨rfl, hf6⟩; have K6 : Fr No w5 w6 := Fr.trans (And.left (by assumption)) hf6)) | (go_at_call 18; ((with_reducible refine (at_prog HP.out (HC.out _)).mono ?_); rintro e w7 ⟨rfl, hf7⟩; have K7 : Fr No w5 w7 := Fr.trans (And.left (by assumption)) hf7)))
    go_wp2_with fail
    go_ret
    exact ⟨rfl, HW.out.1.trans K7⟩
end Go.Proofs.Ytgbbgkbpafpnbaa
