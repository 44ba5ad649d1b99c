/-
  THE WALK OF CidrNesting, over this seat's translation: the call returns true.
  Conditions: the arguments are addresses and a prefix; the package variables are as Gl says.
-/
import Derived.Test.YtmhnailcmlomiaaDoorUa
namespace Go.Proofs.YtmhnailcmlomiaaDoor
open Go.ChangeShapes Go.WideShapes Go.ChangeAt Go.RowKit
set_option linter.unusedVariables false

set_option maxHeartbeats 32000000 in
set_option maxRecDepth 100000 in
theorem nesting_law (b : Bool) (xs : List Nat) (b2 : Bool) (x2 : List Nat) (v1 v2 : Int) (d0 : Bool) (ps : List Nat) (n : Int) (hx : Bytes xs) (hx2 : Bytes x2) (hp : Bytes ps) (w : World) (hG : Gl w) :
    Calls Tryd.prog 4 #[.agg (adr b xs).toArray, .agg (adr b2 x2).toArray, .int .i64 v1, .int .i64 v2, .agg (pfx d0 ps n).toArray] w fun e w' => e = .returned (.bool true) ∧ Fr No w w' := by
  obtain ⟨Z, hZ⟩ : ∃ Z : Array Value, noP.toArray = Z := ⟨_, rfl⟩
  obtain ⟨Y, hY⟩ : ∃ Y : Array Value, (adr false zeros).toArray = Y := ⟨_, rfl⟩
  have v40 := zero26
  have v30 := zero24
  rw [hZ] at v40
  rw [hY] at v30
  have hZs : Z.size = 18 := by rw [← hZ]; rfl
  have hYs : Y.size = 17 := by rw [← hY]; rfl
  have V1 : Hid (∀ w', Calls Tryd.prog 7 #[.agg (adr b xs).toArray] w' (GenA w')) := fun w' => vaddr_gen b xs hx w'
  have V2 : Hid (∀ w', Calls Tryd.prog 14 #[.agg (adr b2 x2).toArray] w' (GenB w')) := fun w' => saddr_gen b2 x2 hx2 w'
  have G1 : Hid (∀ w', Calls Tryd.prog 10 #[.agg (pfx d0 ps n).toArray] w' (GenP w')) := fun w' => prefix_gen d0 ps n hp w'
  have hAs := adr_size (b := b) hx
  have hCs := adr_size (b := b2) hx2
  have hPs := pfx_size (b := d0) (n := n) hp
  generalize (adr b xs).toArray = A at V1 hAs ⊢
  generalize (adr b2 x2).toArray = C at V2 hCs ⊢
  generalize (pfx d0 ps n).toArray = P at G1 hPs ⊢
  obtain ⟨b1, b2', b3, hF⟩ := alloc3 w (.cells A 24) (.cells C 24) (.cells P 26)
  obtain ⟨w1, hw1⟩ : ∃ w1, ((w.alloc (.cells A 24)).alloc (.cells C 24)).alloc (.cells P 26) = w1 := ⟨_, rfl⟩
  obtain ⟨nb, hnb⟩ : ∃ nb, w.heap.size = nb := ⟨_, rfl⟩
  rw [hw1, hnb] at b1 b2' b3
  rw [hw1] at hF
  have HB := Lib.hid (And.intro b1 (And.intro b2' (And.intro b3 (And.intro hF hG))))
  clear b1 b2' b3 hF hG hZ hY hx hx2 hp
  go_enter Tryd.func4, Tryd.ntmps4
  have t3 := Tryd.underlying3
  have u3 := Tryd.runUnderlying3
  have g3 := Tryd.isAgg3
  have z3 := Tryd.sizeOf3
  have t4 := Tryd.underlying4
  have u4 := Tryd.runUnderlying4
  have g4 := Tryd.isAgg4
  have z4 := Tryd.sizeOf4
  have t22 := Tryd.underlying22
  have u22 := Tryd.runUnderlying22
  have g22 := Tryd.isAgg22
  have z22 := Tryd.sizeOf22
  have t24 := Tryd.underlying24
  have u24 := Tryd.runUnderlying24
  have g24 := Tryd.isAgg24
  have z24 := Tryd.sizeOf24
  have t26 := Tryd.underlying26
  have u26 := Tryd.runUnderlying26
  have g26 := Tryd.isAgg26
  have z26 := Tryd.sizeOf26
  have c5 := Tryd.call5
  have c7 := Tryd.call7
  have c8 := Tryd.call8
  have c9 := Tryd.call9
  have c10 := Tryd.call10
  have c11 := Tryd.call11
  have c12 := Tryd.call12
  have c13 := Tryd.call13
  have c14 := Tryd.call14
  have mixed : Tryd.prog.follows .mixedOrders = true := by kernel_rfl
  obtain ⟨k30, hk30⟩ : ∃ k, k = 17 := ⟨_, rfl⟩
  rw [← hk30] at z24
  have nk30 : ¬ k30 = 0 := by omega
  have HK24 := Lib.hid hk30
  obtain ⟨k40, hk40⟩ : ∃ k, k = 18 := ⟨_, rfl⟩
  rw [← hk40] at z26
  have nk40 : ¬ k40 = 0 := by omega
  have HK26 := Lib.hid hk40
  have hP : Tryd.prog = PD := rfl
  rw [hP] at t3 u3 g3 z3 t4 u4 g4 z4 t22 u22 g22 z22 t24 u24 g24 z24 t26 u26 g26 z26 c5 c7 c8 c9 c10 c11 c12 c13 c14 mixed v40 v30 ⊢
  have HP := Lib.hid hP.symm
  clear hP hk30 hk40
  have hPk : P.size = k40 := by rw [HK26.out]; exact hPs
  have hZk : Z.size = k40 := by rw [HK26.out]; exact hZs
  have hAk : A.size = k30 := by rw [HK24.out]; exact hAs
  have hCk : C.size = k30 := by rw [HK24.out]; exact hCs
  have hYk : Y.size = k30 := by rw [HK24.out]; exact hYs
  clear hPs hZs hAs hYs hCs
  have HSA : Hid (∀ w', Fr No w1 w' → Sem.run PD (loadCellsFrom ⟨nb, 0, none⟩ 0 k30 #[]) w' = .ok A w' ∧ Sem.run PD (loadCellsFrom ⟨nb + 1, 0, none⟩ 0 k30 #[]) w' = .ok C w' ∧ Sem.run PD (loadCellsFrom ⟨nb + 1 + 1, 0, none⟩ 0 k40 #[]) w' = .ok P w') := fun w' hf => ⟨load_block (hf.keep HB.out.1) hAk (fun j v hv => by simpa using hv), load_block (hf.keep HB.out.2.1) hCk (fun j v hv => by simpa using hv), load_block (hf.keep HB.out.2.2.1) hPk (fun j v hv => by simpa using hv)⟩
  have lp0 := (HSA.out w1 (Fr.refl No _)).1
  go_upto_region 2 with (first | (go_at_call 7; refine (at_prog HP.out (V1.out _)).mono ?_; rintro e u3 ⟨c, ys, hyb, hyv, rfl, hu3⟩; obtain ⟨B, hB0, h0B, hBs, -⟩ := adr_letter c ys hyb; rw [hB0]; have hBk : B.size = k30 := hBs.trans HK24.out.symm; have hB1 : ∀ u ∈ B.toList, u.oneCell' = true := (by rw [← hB0]; exact adr_ones _ _); obtain ⟨z3, hs3, hzb3, hzf3⟩ := store_all (P := PD) B.toList (heap_alloc_new u3 (.cells Y 24)) (by rw [Array.length_toList, hBk, hYk]) hB1) | fail)
  obtain ⟨ab, hab⟩ : ∃ ab, u3.heap.size = ab := ⟨_, rfl⟩
  have K23 : Fr No w1 z3 := (hu3.trans (Fr.alloc No u3 (.cells Y 24))).ofNew hzf3 fun k hk => .inr (by rw [hk]; exact hu3.size)
  rw [hab] at hzb3 ⊢
  have HC : Hid (Fr No w1 z3 ∧ z3.heap[ab]? = some (.cells B 24 (0, 0))) := ⟨K23, by simpa using hzb3⟩
  clear K23 hzb3 hzf3 hu3 lp0 hs3 hab V1
  obtain ⟨N, hN⟩ : ∃ N : Nat, bitsOf c = N := ⟨(bitsOf c).toNat, by have := bitsOf_le c; omega⟩
  have hN128 : N ≤ 128 := by have := bitsOf_le c; omega
  have HBL : Hid (∀ w', Calls Tryd.prog 9 #[.agg B] w' fun e w'' => e = .returned (.int .i64 N) ∧ Fr No w' w'') := fun w' => by
    have h := bitLen_R c B h0B w'
    rw [hN] at h
    exact h
  obtain ⟨kn, hkn, hmd⟩ := mod_fix v1 (N + 1) (by omega) (by omega)
  obtain ⟨mn, hmn, hmd2⟩ := mod_fix v2 (N + 1) (by omega) (by omega)
  obtain ⟨k, hk⟩ : ∃ k : Int, (kn : Int) = k := ⟨_, rfl⟩
  obtain ⟨m, hm⟩ : ∃ m : Int, (mn : Int) = m := ⟨_, rfl⟩
  rw [hk] at hmd
  rw [hm] at hmd2
  have hpo : ∀ q : Int, 0 ≤ q → q ≤ N → pofB c ys q = true := fun q h0 h1 => by
    unfold pofB
    rw [hyv, decide_eq_true h0, decide_eq_true (by omega : q ≤ bitsOf c)]
    rfl
  have hwB : IntKind.i64.wrap ((N : Int) + 1) = (N : Int) + 1 := by rw [IntKind.wrap_i64]; omega
  have HMD : Hid ((∀ w', Calls Tryd.prog 8 #[.int .i64 v1, .int .i64 ((N : Int) + 1)] w' fun e w'' => e = .returned (.int .i64 k) ∧ w'' = w') ∧ ∀ w', Calls Tryd.prog 8 #[.int .i64 v2, .int .i64 ((N : Int) + 1)] w' fun e w'' => e = .returned (.int .i64 m) ∧ w'' = w') := ⟨hmd, hmd2⟩
  obtain ⟨tt, htt⟩ : ∃ tt : Bool, true = tt := ⟨_, rfl⟩
  have hnt : (!tt) = false := by rw [← htt]; rfl
  obtain ⟨p, hp⟩ : ∃ p : Int, max k m = p := ⟨_, rfl⟩
  obtain ⟨q, hq⟩ : ∃ q : Int, min k m = q := ⟨_, rfl⟩
  have hqp : q ≤ p := by omega
  have hpo1 := hpo p (by omega) (by omega)
  have hpo2 := hpo q (by omega) (by omega)
  obtain ⟨km, hkm⟩ : ∃ km : Bool, (k == m) = km := ⟨_, rfl⟩
  have hpq : decide (q = p) = km := by
    rw [← hkm]
    by_cases h : k = m
    · have h1 : q = p := by omega
      rw [h1, h]
      simp
    · have h1 : q ≠ p := by omega
      have h2 : (k == m) = false := by simpa using h
      rw [decide_eq_false h1, h2]
  have e9 : (km != km) = false := by simp
  obtain ⟨Q1, hQ10, -, -, hQ1s, -, hQ11⟩ := pfx_letter c (pofX c ys p) p (pofX_bytes hyb p)
  obtain ⟨Q2, hQ20, -, -, hQ2s, -, hQ21⟩ := pfx_letter c (pofX c ys q) q (pofX_bytes hyb q)
  have hQ1k : Q1.size = k40 := hQ1s.trans HK26.out.symm
  have hQ2k : Q2.size = k40 := hQ2s.trans HK26.out.symm
  have HPO : Hid ((∀ w', Calls Tryd.prog 5 #[.agg B, .int .i64 p] w' fun e w'' => e = .returned (.tuple #[.agg Q1, .bool tt]) ∧ Fr No w' w'') ∧ ∀ w', Calls Tryd.prog 5 #[.agg B, .int .i64 q] w' fun e w'' => e = .returned (.tuple #[.agg Q2, .bool tt]) ∧ Fr No w' w'') := ⟨fun w' => by
    have h := pof_any c ys p hyb w'
    rw [hB0, hpo1, show pofT c ys p = pfx c (pofX c ys p) p by rw [pofT, if_pos hpo1], hQ10, htt] at h
    exact h, fun w' => by
    have h := pof_any c ys q hyb w'
    rw [hB0, hpo2, show pofT c ys q = pfx c (pofX c ys q) q by rw [pofT, if_pos hpo2], hQ20, htt] at h
    exact h⟩
  have O1 : Hid (∀ w', Calls Tryd.prog 13 #[.agg Q2, .agg Q1] w' fun e w'' => e = .returned (.bool tt) ∧ Fr No w' w'') := fun w' => by
    have h := cov_any c c (pofX c ys q) (pofX c ys p) q p (pofX_bytes hyb q) (pofX_bytes hyb p) w'
    rw [pof_cov hyb hpo2 hpo1 hqp, hQ10, hQ20, htt] at h
    exact h
  have O2 : Hid (∀ w', Calls Tryd.prog 13 #[.agg Q1, .agg Q2] w' fun e w'' => e = .returned (.bool km) ∧ Fr No w' w'') := fun w' => by
    have h := cov_any c c (pofX c ys p) (pofX c ys q) p q (pofX_bytes hyb p) (pofX_bytes hyb q) w'
    rw [pof_cov_back hyb hpo2 hpo1 hqp, hQ10, hQ20, hpq] at h
    exact h
  have HX : Hid (Bytes (pofX c ys p) ∧ Bytes (pofX c ys q) ∧ covP c (pofX c ys q) q c (pofX c ys p) p = true ∧ (pfx c (pofX c ys p) p).toArray = Q1 ∧ (pfx c (pofX c ys q) q).toArray = Q2 ∧ (∀ u ∈ Q1.toList, u.oneCell' = true) ∧ ∀ u ∈ Q2.toList, u.oneCell' = true) := ⟨pofX_bytes hyb p, pofX_bytes hyb q, pof_cov hyb hpo2 hpo1 hqp, hQ10, hQ20, hQ11, hQ21⟩
  have HTT := Lib.hid htt
  clear htt hpq hQ10 hQ20 hQ1s hQ2s hQ11 hQ21 hpo1 hpo2 hqp hpo hyv hyb hB0 h0B hBs hB1 hN hN128 hkn hmn hmd hmd2 hk hm
  generalize pofX c ys p = X1 at HX
  generalize pofX c ys q = X2 at HX
  have HSB : Hid (∀ w', Fr No z3 w' → Sem.run PD (loadCellsFrom ⟨ab, 0, none⟩ 0 k30 #[]) w' = .ok B w') := fun w' hf => load_block (hf.keep HC.out.2) hBk (fun j v hv => by simpa using hv)
  go_cut [12, 13] (fun s12 s13 wx => s12 = .int .i64 k ∧ s13 = .int .i64 m ∧ Hid (Fr No z3 wx))
  case first =>
    have f5 : Fr No z3 z3.drew := Fr.drew No _
    have hS0 := HSB.out _ f5
    refine wp_region_noPanic ?_
    refine wp_region_held_drew (S := (fun w' : World => Sem.run PD (loadCellsFrom ⟨ab, 0, none⟩ 0 k30 #[]) w' = .ok B w')) (by kernel_rfl) hS0 (fun hHeld => ?_)
    clear hS0
    refine wpAnyH_take (i := 0) (oi := { dst := some 22, op := Op.move (Operand.tmp 2), type := 3, pos := "law.go:46", after := #[], guard := none }) (v := ?v0x1) rfl (by kernel_rfl) (by kernel_rfl) (by kernel_rfl) (fun _ _ _ h => h) (Or.inl ⟨by rfl, ?hy0x1⟩) hHeld ?nx0x1
    case hy0x1 => (intro w hSw; (try dsimp only at hSw); go_simp; try with_reducible rfl)
    try simp only [Act.put, List.setIfInBounds_toArray, List.set_cons_zero, List.set_cons_succ]
    refine wpAnyH_take (i := 1) (oi := { dst := some 23, op := Op.load 24 (Operand.tmp 11), type := 24, pos := "law.go:46", after := #[], guard := none }) (v := ?v1x2) rfl (by kernel_rfl) (by kernel_rfl) (by kernel_rfl) (fun _ _ _ h => h) (Or.inl ⟨by rfl, ?hy1x2⟩) hHeld ?nx1x2
    case hy1x2 => (intro w hSw; (try dsimp only at hSw); go_simp; try with_reducible rfl)
    try simp only [Act.put, List.setIfInBounds_toArray, List.set_cons_zero, List.set_cons_succ]
    refine wpAnyH_take (i := 5) (oi := { dst := some 27, op := Op.move (Operand.tmp 3), type := 3, pos := "law.go:46", after := #[], guard := none }) (v := ?v5x3) rfl (by kernel_rfl) (by kernel_rfl) (by kernel_rfl) (fun _ _ _ h => h) (Or.inl ⟨by rfl, ?hy5x3⟩) hHeld ?nx5x3
    case hy5x3 => (intro w hSw; (try dsimp only at hSw); go_simp; try with_reducible rfl)
    try simp only [Act.put, List.setIfInBounds_toArray, List.set_cons_zero, List.set_cons_succ]
    refine wpAnyH_take (i := 6) (oi := { dst := some 28, op := Op.load 24 (Operand.tmp 11), type := 24, pos := "law.go:46", after := #[], guard := none }) (v := ?v6x4) rfl (by kernel_rfl) (by kernel_rfl) (by kernel_rfl) (fun _ _ _ h => h) (Or.inl ⟨by rfl, ?hy6x4⟩) hHeld ?nx6x4
    case hy6x4 => (intro w hSw; (try dsimp only at hSw); go_simp; try with_reducible rfl)
    try simp only [Act.put, List.setIfInBounds_toArray, List.set_cons_zero, List.set_cons_succ]
    refine wpAnyH_ready (rs := [2]) (by kernel_rfl) (by simp) ?_
    refine (AllReadyH.cons (o := { dst := some 24, op := Op.call { callee := Callee.value (Operand.func 9), args := #[Operand.tmp 23], argTypes := #[24] }, type := 3, pos := "law.go:46", after := #[{ on := 1, ground := Ground.data }], guard := none }) rfl (fun K hK => ?_) AllReadyH.nil)
    go_simp
    go_at_call 9
    refine (at_prog HP.out (HBL.out _)).mono ?_
    rintro e xx1 ⟨rfl, hx2⟩
    have gg3 := f5.trans hx2
    have hS := HSB.out _ gg3
    clear hx2
    refine hK.out _ _ hS (fun hH2 => ?_)
    clear hK K hHeld
    have hHeld := hH2
    clear hH2 hS
    try simp only [Act.put, List.setIfInBounds_toArray, List.set_cons_zero, List.set_cons_succ]
    refine wpAnyH_take (i := 3) (oi := { dst := some 25, op := Op.binOp BinOp.add 3 (Operand.tmp 24) (Operand.const (Value.int IntKind.i64 1)) 3, type := 3, pos := "law.go:46", after := #[{ on := 2, ground := Ground.data }], guard := none }) (v := ?v3x5) rfl (by kernel_rfl) (by kernel_rfl) (by kernel_rfl) (fun _ _ _ h => h) (Or.inl ⟨by rfl, ?hy3x5⟩) hHeld ?nx3x5
    case hy3x5 => (intro w hSw; (try dsimp only at hSw); go_simp; try with_reducible rfl)
    try simp only [Act.put, List.setIfInBounds_toArray, List.set_cons_zero, List.set_cons_succ]
    refine wpAnyH_ready (rs := [4]) (by kernel_rfl) (by simp) ?_
    refine (AllReadyH.cons (o := { dst := some 26, op := Op.call { callee := Callee.value (Operand.func 8), args := #[Operand.tmp 22, Operand.tmp 25], argTypes := #[3, 3] }, type := 3, pos := "law.go:46", after := #[{ on := 0, ground := Ground.data }, { on := 3, ground := Ground.data }, { on := 2, ground := Ground.chain }], guard := none }) rfl (fun K hK => ?_) AllReadyH.nil)
    go_simp
    go_at_call 8
    refine (at_prog HP.out (HMD.out.1 _)).mono ?_
    rintro e xx4 ⟨rfl, hx5⟩
    replace hx5 := hx5.symm
    subst hx5
    have hS := HSB.out _ gg3
    refine hK.out _ _ hS (fun hH2 => ?_)
    clear hK K hHeld
    have hHeld := hH2
    clear hH2 hS
    try simp only [Act.put, List.setIfInBounds_toArray, List.set_cons_zero, List.set_cons_succ]
    refine wpAnyH_ready (rs := [7]) (by kernel_rfl) (by simp) ?_
    refine (AllReadyH.cons (o := { dst := some 29, op := Op.call { callee := Callee.value (Operand.func 9), args := #[Operand.tmp 28], argTypes := #[24] }, type := 3, pos := "law.go:46", after := #[{ on := 6, ground := Ground.data }, { on := 4, ground := Ground.chain }], guard := none }) rfl (fun K hK => ?_) AllReadyH.nil)
    go_simp
    go_at_call 9
    refine (at_prog HP.out (HBL.out _)).mono ?_
    rintro e xx6 ⟨rfl, hx7⟩
    have gg8 := gg3.trans hx7
    have hS := HSB.out _ gg8
    clear hx7
    refine hK.out _ _ hS (fun hH2 => ?_)
    clear hK K hHeld
    have hHeld := hH2
    clear hH2 hS
    try simp only [Act.put, List.setIfInBounds_toArray, List.set_cons_zero, List.set_cons_succ]
    refine wpAnyH_take (i := 8) (oi := { dst := some 30, op := Op.binOp BinOp.add 3 (Operand.tmp 29) (Operand.const (Value.int IntKind.i64 1)) 3, type := 3, pos := "law.go:46", after := #[{ on := 7, ground := Ground.data }], guard := none }) (v := ?v8x6) rfl (by kernel_rfl) (by kernel_rfl) (by kernel_rfl) (fun _ _ _ h => h) (Or.inl ⟨by rfl, ?hy8x6⟩) hHeld ?nx8x6
    case hy8x6 => (intro w hSw; (try dsimp only at hSw); go_simp; try with_reducible rfl)
    try simp only [Act.put, List.setIfInBounds_toArray, List.set_cons_zero, List.set_cons_succ]
    refine wpAnyH_ready (rs := [9]) (by kernel_rfl) (by simp) ?_
    refine (AllReadyH.cons (o := { dst := some 31, op := Op.call { callee := Callee.value (Operand.func 8), args := #[Operand.tmp 27, Operand.tmp 30], argTypes := #[3, 3] }, type := 3, pos := "law.go:46", after := #[{ on := 5, ground := Ground.data }, { on := 8, ground := Ground.data }, { on := 7, ground := Ground.chain }], guard := none }) rfl (fun K hK => ?_) AllReadyH.nil)
    go_simp
    go_at_call 8
    refine (at_prog HP.out (HMD.out.2 _)).mono ?_
    rintro e xx9 ⟨rfl, hx10⟩
    replace hx10 := hx10.symm
    subst hx10
    have hS := HSB.out _ gg8
    refine hK.out _ _ hS (fun hH2 => ?_)
    clear hK K hHeld
    have hHeld := hH2
    clear hH2 hS
    try simp only [Act.put, List.setIfInBounds_toArray, List.set_cons_zero, List.set_cons_succ]
    refine wpAnyH_take (i := 10) (oi := { dst := some 12, op := Op.assign (Operand.tmp 26), type := 3, pos := "law.go:46", after := #[{ on := 4, ground := Ground.data }, { on := 9, ground := Ground.chain }, { on := 0, ground := Ground.phase }, { on := 1, ground := Ground.phase }, { on := 2, ground := Ground.phase }, { on := 3, ground := Ground.phase }, { on := 4, ground := Ground.phase }, { on := 5, ground := Ground.textOnly Departure.lateStores }, { on := 6, ground := Ground.textOnly Departure.lateStores }, { on := 7, ground := Ground.textOnly Departure.lateStoresUnsure }, { on := 8, ground := Ground.textOnly Departure.lateStores }, { on := 9, ground := Ground.textOnly Departure.lateStoresUnsure }], guard := none }) (v := ?v10x7) rfl (by kernel_rfl) (by kernel_rfl) (by kernel_rfl) (fun _ _ _ h => h) (Or.inl ⟨by rfl, ?hy10x7⟩) hHeld ?nx10x7
    case hy10x7 => (intro w hSw; (try dsimp only at hSw); go_simp; try with_reducible rfl)
    try simp only [Act.put, List.setIfInBounds_toArray, List.set_cons_zero, List.set_cons_succ]
    refine wpAnyH_take (i := 11) (oi := { dst := some 13, op := Op.assign (Operand.tmp 31), type := 3, pos := "law.go:46", after := #[{ on := 9, ground := Ground.data }, { on := 10, ground := Ground.chain }, { on := 0, ground := Ground.phase }, { on := 1, ground := Ground.phase }, { on := 2, ground := Ground.phase }, { on := 3, ground := Ground.phase }, { on := 4, ground := Ground.phase }, { on := 5, ground := Ground.phase }, { on := 6, ground := Ground.phase }, { on := 7, ground := Ground.phase }, { on := 8, ground := Ground.phase }, { on := 9, ground := Ground.phase }, { on := 10, ground := Ground.phase }], guard := none }) (v := ?v11x8) rfl (by kernel_rfl) (by kernel_rfl) (by kernel_rfl) (fun _ _ _ h => h) (Or.inl ⟨by rfl, ?hy11x8⟩) hHeld ?nx11x8
    case hy11x8 => (intro w hSw; (try dsimp only at hSw); go_simp; try with_reducible rfl)
    try simp only [Act.put, List.setIfInBounds_toArray, List.set_cons_zero, List.set_cons_succ]
    refine wpAnyH_done (by kernel_rfl) ?_ _
    refine NoPanic.normal ?_
    go_wp2_with fail
    go_meet
    exact ⟨rfl, rfl, gg8⟩
  case rest =>
    obtain ⟨rfl, rfl, HD⟩ := hcut
    clear HMD HBL
    have lb0 := HSB.out _ HD.out
    go_upto_region 8 with (first | (go_at_call 5; with_reducible refine (at_prog HP.out (HPO.out.1 _)).mono ?_; rintro e u4 ⟨rfl, hu4⟩; obtain ⟨z4, hs4, hzb4, hzf4⟩ := store_all (P := PD) Q1.toList (heap_alloc_new u4 (.cells Z 26)) (by rw [Array.length_toList, hQ1k, hZk]) HX.out.2.2.2.2.2.1; have K4 : Fr No z3 z4 := ((HD.out.trans hu4).trans (Fr.alloc No u4 (.cells Z 26))).ofNew hzf4 (fun k hk => .inr (by rw [hk]; exact (HD.out.trans hu4).size)); have lb4 := HSB.out z4 K4) | (go_at_call 5; with_reducible refine (at_prog HP.out (HPO.out.2 _)).mono ?_; rintro e u5 ⟨rfl, hu5⟩; obtain ⟨z5, hs5, hzb5, hzf5⟩ := store_all (P := PD) Q2.toList (heap_alloc_new u5 (.cells Z 26)) (by rw [Array.length_toList, hQ2k, hZk]) HX.out.2.2.2.2.2.2; have K5 : Fr No z4 z5 := (hu5.trans (Fr.alloc No u5 (.cells Z 26))).ofNew hzf5 (fun k hk => .inr (by rw [hk]; exact hu5.size)); have HQ : Hid (∀ w', Fr No z5 w' → Sem.run PD (loadCellsFrom ⟨u4.heap.size, 0, none⟩ 0 k40 #[]) w' = .ok Q1 w' ∧ Sem.run PD (loadCellsFrom ⟨u5.heap.size, 0, none⟩ 0 k40 #[]) w' = .ok Q2 w') := Lib.hid (fun w' hf => ⟨load_block ((K5.trans hf).keep hzb4) (by simpa using hQ1k) (fun j v hv => by simpa using hv), load_block (hf.keep hzb5) (by simpa using hQ2k) (fun j v hv => by simpa using hv)⟩); obtain ⟨lx1, lx2⟩ := HQ.out z5 (Fr.refl No _)) | (go_at_call 13; with_reducible refine (at_prog HP.out (O1.out _)).mono ?_; rintro e u6 ⟨rfl, hu6⟩; obtain ⟨ly1, ly2⟩ := HQ.out u6 hu6) | (go_at_call 13; with_reducible refine (at_prog HP.out (O2.out _)).mono ?_; rintro e u7 ⟨rfl, hu7⟩; have lc7 := (HSA.out u7 (HC.out.1.trans (K4.trans (K5.trans (hu6.trans hu7))))).2.1) | (go_at_call 14; refine (at_prog HP.out (V2.out _)).mono ?_; rintro e u8 ⟨d, zs, hzs, rfl, hu8⟩; obtain ⟨D, hD0, -, hDs, -⟩ := adr_letter d zs hzs; rw [hD0]; have hDk : D.size = k30 := hDs.trans HK24.out.symm; have hD1 : ∀ u ∈ D.toList, u.oneCell' = true := (by rw [← hD0]; exact adr_ones _ _); obtain ⟨z8, hs8, hzb8, hzf8⟩ := store_all (P := PD) D.toList (heap_alloc_new u8 (.cells Y 24)) (by rw [Array.length_toList, hDk, hYk]) hD1) | fail)
    obtain ⟨pb, hpb⟩ : ∃ pb, u4.heap.size = pb := ⟨_, rfl⟩
    obtain ⟨qb, hqb⟩ : ∃ qb, u5.heap.size = qb := ⟨_, rfl⟩
    obtain ⟨db, hdb⟩ : ∃ db, u8.heap.size = db := ⟨_, rfl⟩
    rw [hpb, hqb] at HQ
    rw [hdb] at hzb8
    rw [hpb, hqb, hdb]
    have K8 : Fr No z5 z8 := (((hu6.trans hu7).trans hu8).trans (Fr.alloc No u8 (.cells Y 24))).ofNew hzf8 fun k hk => .inr (by rw [hk]; exact ((hu6.trans hu7).trans hu8).size)
    have HE : Hid (Fr No w1 z8 ∧ z8.heap[db]? = some (.cells D 24 (0, 0)) ∧ Fr No z5 z8) := ⟨HC.out.1.trans (K4.trans (K5.trans K8)), by simpa using hzb8, K8⟩
    have X1c : Hid (∀ w', Calls Tryd.prog 12 #[.agg Q1, .agg D] w' fun e w'' => e = .returned (.bool (contP c X1 p d zs)) ∧ Fr No w' w'') := fun w' => by
      rw [← HX.out.2.2.2.1, ← hD0]
      exact cont_any c d X1 zs p HX.out.1 hzs w'
    have X2c : Hid (contP c X1 p d zs = true → ∀ w', Calls Tryd.prog 12 #[.agg Q2, .agg D] w' fun e w'' => e = .returned (.bool tt) ∧ Fr No w' w'') := fun h w' => by
      have h1 := cont_any c d X2 zs q HX.out.2.1 hzs w'
      rw [cov_cont HX.out.2.2.1 h, HX.out.2.2.2.2.1, hD0, HTT.out] at h1
      exact h1
    have X3c : Hid (∀ (e : Bool) (us : List Nat) (j : Int), Bytes us → (∀ w', Calls Tryd.prog 13 #[.agg (pfx e us j).toArray, .agg Q1] w' fun f w'' => f = .returned (.bool (covP e us j c X1 p)) ∧ Fr No w' w'') ∧ (∀ w', Calls Tryd.prog 13 #[.agg Q1, .agg (pfx e us j).toArray] w' fun f w'' => f = .returned (.bool (covP c X1 p e us j)) ∧ Fr No w' w'') ∧ ∀ w', Calls Tryd.prog 12 #[.agg (pfx e us j).toArray, .agg D] w' fun f w'' => f = .returned (.bool (contP e us j d zs)) ∧ Fr No w' w'') := fun e us j hu => by
      rw [← HX.out.2.2.2.1, ← hD0]
      exact ⟨fun w' => cov_any e c us X1 j p hu HX.out.1 w', fun w' => cov_any c e X1 us p j HX.out.1 hu w', fun w' => cont_any e d us zs j hu hzs w'⟩
    clear hzb8 hzf8 hs8 hzb4 hzb5 hzf4 hzf5 hs4 hs5 K4 K5 K8 hu4 hu5 hu6 hu7 hu8 lb0 lb4 lx1 lx2 ly1 ly2 lc7 hpb hqb hdb hD0 hDs hD1 hzs V2 O1 O2 HPO HD hp hq hkm e9
    have HSS : Hid (∀ w', Fr No z8 w' → Sem.run PD (loadCellsFrom ⟨pb, 0, none⟩ 0 k40 #[]) w' = .ok Q1 w' ∧ Sem.run PD (loadCellsFrom ⟨qb, 0, none⟩ 0 k40 #[]) w' = .ok Q2 w' ∧ Sem.run PD (loadCellsFrom ⟨db, 0, none⟩ 0 k30 #[]) w' = .ok D w' ∧ Sem.run PD (loadCellsFrom ⟨nb + 1 + 1, 0, none⟩ 0 k40 #[]) w' = .ok P w') := fun w' hf => ⟨(HQ.out w' (HE.out.2.2.trans hf)).1, (HQ.out w' (HE.out.2.2.trans hf)).2, load_block (hf.keep HE.out.2.1) hDk (fun j v hv => by simpa using hv), (HSA.out w' (HE.out.1.trans hf)).2.2⟩
    obtain ⟨ly1, ly2, ly3, ly4⟩ := HSS.out z8 (Fr.refl No _)
    go_cut [79] (fun s79 wx => s79 = .bool false ∧ Hid (Fr No z8 wx))
    case first =>
      obtain ⟨ct, hct⟩ : ∃ ct, contP c X1 p d zs = ct := ⟨_, rfl⟩
      rw [hct] at X1c X2c
      clear hct
      cases ct
      · go_wp2_with (first | (go_at_call 12; with_reducible refine (at_prog HP.out (X1c.out _)).mono ?_; rintro e u1 ⟨rfl, hu1⟩) | fail)
        go_meet
        exact ⟨rfl, hu1⟩
      · have X4c := Lib.hid (X2c.out rfl)
        go_wp2_with (first | (go_at_call 12; with_reducible refine (at_prog HP.out (X1c.out _)).mono ?_; rintro e u1 ⟨rfl, hu1⟩; obtain ⟨lz1, lz2, lz3, lz4⟩ := HSS.out u1 hu1) | (go_at_call 12; with_reducible refine (at_prog HP.out (X4c.out _)).mono ?_; rintro e u2 ⟨rfl, hu2⟩) | fail)
        go_meet
        exact ⟨rfl, hu1.trans hu2⟩
    case rest =>
      obtain ⟨rfl, HW⟩ := hcut
      clear ly1 ly2 ly3 ly4 X2c
      obtain ⟨-, -, -, lp9⟩ := HSS.out _ HW.out
      go_upto_region 11 with (first | (go_at_call 10; refine (at_prog HP.out (G1.out _)).mono ?_; rintro e u9 ⟨f, us, j, hus, -, rfl, hu9⟩; have hRk : (pfx f us j).toArray.size = k40 := (by rw [HK26.out]; exact pfx_size hus); obtain ⟨z9, hs9, hzb9, hzf9⟩ := store_all (P := PD) (pfx f us j).toArray.toList (heap_alloc_new u9 (.cells Z 26)) (by rw [Array.length_toList, hZk, hRk]) (pfx_ones _ _ _)) | fail)
      obtain ⟨rb, hrb⟩ : ∃ rb, u9.heap.size = rb := ⟨_, rfl⟩
      rw [hrb] at hzb9 ⊢
      have K9 : Fr No z8 z9 := ((HW.out.trans hu9).trans (Fr.alloc No u9 (.cells Z 26))).ofNew hzf9 fun k hk => .inr (by rw [hk]; exact (HW.out.trans hu9).size)
      have hzb9' : z9.heap[rb]? = some (.cells (pfx f us j).toArray 26 (0, 0)) := by simpa using hzb9
      have HZ : Hid (Fr No z8 z9 ∧ Fr No w1 z9 ∧ ∀ w', Fr No z9 w' → Sem.run PD (loadCellsFrom ⟨rb, 0, none⟩ 0 k40 #[]) w' = .ok (pfx f us j).toArray w') := ⟨K9, HE.out.1.trans K9, fun w' hf => load_block (hf.keep hzb9') hRk (fun j v hv => by simpa using hv)⟩
      obtain ⟨R1, R2, R3⟩ := X3c.out f us j hus
      have hN : covP f us j c X1 p = false → covP c X1 p f us j = false → contP f us j d zs = true → contP c X1 p d zs = false := fun h1 h2 h3 => by
        cases h4 : contP c X1 p d zs with
        | false => rfl
        | true => rcases nested h3 h4 with h | h
                  · rw [h] at h1; cases h1
                  · rw [h] at h2; cases h2
      generalize contP c X1 p d zs = t2 at X1c hN
      generalize contP f us j d zs = t1 at R3 hN
      generalize covP f us j c X1 p = o1 at R1 hN
      generalize covP c X1 p f us j = o2 at R2 hN
      generalize (pfx f us j).toArray = R at R1 R2 R3 HZ hRk
      clear hzb9 hzb9' hzf9 hs9 hrb K9 hu9 hus X3c lp9 G1
      have R1 := Lib.hid R1
      have R2 := Lib.hid R2
      have R3 := Lib.hid R3
      have HN := Lib.hid hN
      clear hN
      cases o1
      · cases o2
        · cases t1
          · go_wp2_with (first | (go_at_call 11; refine (at_prog HP.out (cawake_any _ (HB.out.2.2.2.2.fr (HB.out.2.2.2.1.trans HZ.out.2.1)))).mono ?_; rintro e a1 ⟨rfl, ha1⟩; have g1 := ha1; have lr1 := HZ.out.2.2 a1 g1; obtain ⟨lq1, -, ld1, -⟩ := HSS.out a1 (HZ.out.1.trans g1)) | (go_at_call 13; with_reducible refine (at_prog HP.out (R1.out _)).mono ?_; rintro e a2 ⟨rfl, ha2⟩; have g2 := g1.trans ha2; have lr2 := HZ.out.2.2 a2 g2; obtain ⟨lq2, -, ld2, -⟩ := HSS.out a2 (HZ.out.1.trans g2)) | (go_at_call 13; with_reducible refine (at_prog HP.out (R2.out _)).mono ?_; rintro e a3 ⟨rfl, ha3⟩; have g3 := g2.trans ha3; have lr3 := HZ.out.2.2 a3 g3; obtain ⟨lq3, -, ld3, -⟩ := HSS.out a3 (HZ.out.1.trans g3)) | (go_at_call 12; with_reducible refine (at_prog HP.out (R3.out _)).mono ?_; rintro e a4 ⟨rfl, ha4⟩; have g4 := g3.trans ha4; obtain ⟨lq4, -, ld4, -⟩ := HSS.out a4 (HZ.out.1.trans g4)) | (go_at_call 12; with_reducible refine (at_prog HP.out (X1c.out _)).mono ?_; rintro e a5 ⟨rfl, ha5⟩; have g5 := g4.trans ha5) | fail)
            go_ret
            exact ⟨rfl, HB.out.2.2.2.1.trans (HZ.out.2.1.trans (by first | exact g5 | exact g4 | exact g3 | exact g2))⟩
          · have hN := HN.out rfl rfl rfl
            subst hN
            go_wp2_with (first | (go_at_call 11; refine (at_prog HP.out (cawake_any _ (HB.out.2.2.2.2.fr (HB.out.2.2.2.1.trans HZ.out.2.1)))).mono ?_; rintro e a1 ⟨rfl, ha1⟩; have g1 := ha1; have lr1 := HZ.out.2.2 a1 g1; obtain ⟨lq1, -, ld1, -⟩ := HSS.out a1 (HZ.out.1.trans g1)) | (go_at_call 13; with_reducible refine (at_prog HP.out (R1.out _)).mono ?_; rintro e a2 ⟨rfl, ha2⟩; have g2 := g1.trans ha2; have lr2 := HZ.out.2.2 a2 g2; obtain ⟨lq2, -, ld2, -⟩ := HSS.out a2 (HZ.out.1.trans g2)) | (go_at_call 13; with_reducible refine (at_prog HP.out (R2.out _)).mono ?_; rintro e a3 ⟨rfl, ha3⟩; have g3 := g2.trans ha3; have lr3 := HZ.out.2.2 a3 g3; obtain ⟨lq3, -, ld3, -⟩ := HSS.out a3 (HZ.out.1.trans g3)) | (go_at_call 12; with_reducible refine (at_prog HP.out (R3.out _)).mono ?_; rintro e a4 ⟨rfl, ha4⟩; have g4 := g3.trans ha4; obtain ⟨lq4, -, ld4, -⟩ := HSS.out a4 (HZ.out.1.trans g4)) | (go_at_call 12; with_reducible refine (at_prog HP.out (X1c.out _)).mono ?_; rintro e a5 ⟨rfl, ha5⟩; have g5 := g4.trans ha5) | fail)
            go_ret
            exact ⟨rfl, HB.out.2.2.2.1.trans (HZ.out.2.1.trans (by first | exact g5 | exact g4 | exact g3 | exact g2))⟩
        · go_wp2_with (first | (go_at_call 11; refine (at_prog HP.out (cawake_any _ (HB.out.2.2.2.2.fr (HB.out.2.2.2.1.trans HZ.out.2.1)))).mono ?_; rintro e a1 ⟨rfl, ha1⟩; have g1 := ha1; have lr1 := HZ.out.2.2 a1 g1; obtain ⟨lq1, -, ld1, -⟩ := HSS.out a1 (HZ.out.1.trans g1)) | (go_at_call 13; with_reducible refine (at_prog HP.out (R1.out _)).mono ?_; rintro e a2 ⟨rfl, ha2⟩; have g2 := g1.trans ha2; have lr2 := HZ.out.2.2 a2 g2; obtain ⟨lq2, -, ld2, -⟩ := HSS.out a2 (HZ.out.1.trans g2)) | (go_at_call 13; with_reducible refine (at_prog HP.out (R2.out _)).mono ?_; rintro e a3 ⟨rfl, ha3⟩; have g3 := g2.trans ha3; have lr3 := HZ.out.2.2 a3 g3; obtain ⟨lq3, -, ld3, -⟩ := HSS.out a3 (HZ.out.1.trans g3)) | (go_at_call 12; with_reducible refine (at_prog HP.out (R3.out _)).mono ?_; rintro e a4 ⟨rfl, ha4⟩; have g4 := g3.trans ha4; obtain ⟨lq4, -, ld4, -⟩ := HSS.out a4 (HZ.out.1.trans g4)) | (go_at_call 12; with_reducible refine (at_prog HP.out (X1c.out _)).mono ?_; rintro e a5 ⟨rfl, ha5⟩; have g5 := g4.trans ha5) | fail)
          go_ret
          exact ⟨rfl, HB.out.2.2.2.1.trans (HZ.out.2.1.trans (by first | exact g5 | exact g4 | exact g3 | exact g2))⟩
      · go_wp2_with (first | (go_at_call 11; refine (at_prog HP.out (cawake_any _ (HB.out.2.2.2.2.fr (HB.out.2.2.2.1.trans HZ.out.2.1)))).mono ?_; rintro e a1 ⟨rfl, ha1⟩; have g1 := ha1; have lr1 := HZ.out.2.2 a1 g1; obtain ⟨lq1, -, ld1, -⟩ := HSS.out a1 (HZ.out.1.trans g1)) | (go_at_call 13; with_reducible refine (at_prog HP.out (R1.out _)).mono ?_; rintro e a2 ⟨rfl, ha2⟩; have g2 := g1.trans ha2; have lr2 := HZ.out.2.2 a2 g2; obtain ⟨lq2, -, ld2, -⟩ := HSS.out a2 (HZ.out.1.trans g2)) | (go_at_call 13; with_reducible refine (at_prog HP.out (R2.out _)).mono ?_; rintro e a3 ⟨rfl, ha3⟩; have g3 := g2.trans ha3; have lr3 := HZ.out.2.2 a3 g3; obtain ⟨lq3, -, ld3, -⟩ := HSS.out a3 (HZ.out.1.trans g3)) | (go_at_call 12; with_reducible refine (at_prog HP.out (R3.out _)).mono ?_; rintro e a4 ⟨rfl, ha4⟩; have g4 := g3.trans ha4; obtain ⟨lq4, -, ld4, -⟩ := HSS.out a4 (HZ.out.1.trans g4)) | (go_at_call 12; with_reducible refine (at_prog HP.out (X1c.out _)).mono ?_; rintro e a5 ⟨rfl, ha5⟩; have g5 := g4.trans ha5) | fail)
        go_ret
        exact ⟨rfl, HB.out.2.2.2.1.trans (HZ.out.2.1.trans (by first | exact g5 | exact g4 | exact g3 | exact g2))⟩
end Go.Proofs.YtmhnailcmlomiaaDoor
