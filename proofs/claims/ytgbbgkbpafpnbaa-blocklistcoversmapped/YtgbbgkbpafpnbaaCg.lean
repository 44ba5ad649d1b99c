/-
  CONTRACT of the reference's ValidPrefix, over this seat's translation: what the call returns.
  Conditions: the argument is a prefix.
-/
import Derived.Test.YtgbbgkbpafpnbaaCf
import Derived.Deep.RegionHeld3
namespace Go.Proofs.Ytgbbgkbpafpnbaa
open Go.ChangeShapes Go.WideShapes Go.ChangeAt Go.RowKit
set_option linter.unusedVariables false

theorem bitX_lt (xs : List Nat) (i : Nat) : bitX xs i < 2 := Nat.mod_lt _ (by decide)

set_option maxHeartbeats 4000000 in
set_option maxRecDepth 100000 in
theorem validp_ref (b : Bool) (xs : List Nat) (n : Int) (hx : Bytes xs) (w : World) :
    Calls Try.prog 32 #[.agg (pfx b xs n).toArray] w fun e w' => e = .returned (.bool (validP b xs n)) ∧ Fr No w w' := by
  obtain ⟨P, hP0, -, hP17, hPs, hPA, -⟩ := pfx_letter b xs n hx
  obtain ⟨A, hA, h0, hsz, -⟩ := adr_letter b xs hx
  have HVA : Hid (∀ w', Calls Try.prog 14 #[.agg A] w' fun e w'' => e = .returned (.bool (validA b xs)) ∧ Fr No w' w'') := fun w' => by rw [← hA]; exact valid_ref b xs hx w'
  have HBL : Hid (∀ w', Calls Try.prog 8 #[.agg A] w' fun e w'' => e = .returned (.int .i64 (bitsOf b)) ∧ Fr No w' w'') := fun w' => bitLen_R b A h0 w'
  have HBT : Hid (∀ (i : Nat), (i : Int) < bitsOf b → ∀ w', Calls Try.prog 37 #[.agg A, .int .i64 i] w' fun e w'' => e = .returned (.int .i64 (bitX xs i : Nat)) ∧ Fr No w' w'') := fun i hi w' => by rw [← hA]; exact bit_ref b xs i hx hi w'
  rw [hA] at hPA
  rw [hP0]
  have hb1 := heap_alloc_new w (.cells P 28)
  have HF : Hid (Fr No w (w.alloc (.cells P 28))) := Fr.alloc _ _ _
  have HLD : Hid (∀ w', Fr No (w.alloc (.cells P 28)) w' → Sem.run Try.prog (loadCellsFrom ⟨w.heap.size, 0, none⟩ 0 17 #[]) w' = .ok A w' ∧ w'.cell? ⟨w.heap.size, 17, none⟩ = some (.int .i64 n)) := fun w' hf => by
    have k1 := hf.keep hb1
    exact ⟨load_block k1 hsz (adr_part hsz hPA), by rw [cell_of_row _ _ _ _ _ _ k1]; exact hP17⟩
  have HR : Hid (validP b xs n = (validA b xs && decide (0 ≤ n) && decide (n ≤ bitsOf b) && tailZ b xs n)) := rfl
  have HTZ : Hid ((tailZ b xs n = true) ↔ ∀ i : Nat, i < 128 → n ≤ i → (i : Int) < bitsOf b → bitX xs i = 0) := tailZ_iff
  have HBO : Hid (0 ≤ bitsOf b ∧ bitsOf b ≤ 128) := bitsOf_le b
  rw [HR.out]
  clear hb1 hP0 hP17 hA h0 hPA hx
  generalize tailZ b xs n = tz at HTZ HR ⊢
  generalize validA b xs = va at HVA HR ⊢
  generalize bitsOf b = L at HBL HBT HTZ HBO HR ⊢
  have hV : ((va = true ∧ 0 ≤ n ∧ n ≤ L) ∨ va = false ∨ (va = true ∧ n < 0) ∨ (va = true ∧ 0 ≤ n ∧ L < n)) := by
    cases va
    · exact .inr (.inl rfl)
    · by_cases h1 : n < 0
      · exact .inr (.inr (.inl ⟨rfl, h1⟩))
      · by_cases h2 : L < n
        · exact .inr (.inr (.inr ⟨rfl, by omega, h2⟩))
        · exact .inl ⟨rfl, by omega, by omega⟩
  obtain ⟨w1, hw1⟩ : ∃ w1, w.alloc (.cells P 28) = w1 := ⟨_, rfl⟩
  rcases hV with ⟨rfl, h1, h2⟩ | rfl | ⟨rfl, p1⟩ | ⟨rfl, p0, p2⟩
  · obtain ⟨k, rfl⟩ : ∃ k : Nat, n = k := ⟨n.toNat, by omega⟩
    obtain ⟨B, rfl⟩ : ∃ B : Nat, L = B := ⟨L.toNat, by have := HBO.out; omega⟩
    have hB128 : B ≤ 128 := by have := HBO.out; omega
    have hkB : k ≤ B := by omega
    have q1 : decide ((k : Int) < 0) = false := decide_eq_false (by omega)
    have q2 : decide (B < k) = false := decide_eq_false (by omega)
    rw [decide_eq_true h1, decide_eq_true h2]
    clear h1 h2 HBO HR
    go_enter Try.func32, Try.ntmps32
    have t3 := Try.underlying3
    have u3 := Try.runUnderlying3
    have g3 := Try.isAgg3
    have z3 := Try.sizeOf3
    have t4 := Try.underlying4
    have u4 := Try.runUnderlying4
    have g4 := Try.isAgg4
    have z4 := Try.sizeOf4
    have t24 := Try.underlying24
    have u24 := Try.runUnderlying24
    have g24 := Try.isAgg24
    have z24 := Try.sizeOf24
    have t28 := Try.underlying28
    have u28 := Try.runUnderlying28
    have g28 := Try.isAgg28
    have z28 := Try.sizeOf28
    have c14 := Try.call14
    have c8 := Try.call8
    have c37 := Try.call37
    have mixed : Try.prog.follows .mixedOrders = true := by kernel_rfl
    obtain ⟨k30, hk30⟩ : ∃ k, k = 17 := ⟨_, rfl⟩
    rw [← hk30] at z24
    have nk30 : ¬ k30 = 0 := by omega
    have HK24 := Lib.hid hk30
    obtain ⟨k40, hk40⟩ : ∃ k, k = 18 := ⟨_, rfl⟩
    rw [← hk40] at z28
    have nk40 : ¬ k40 = 0 := by omega
    have HK28 := Lib.hid hk40
    have hP : Try.prog = PD := rfl
    rw [hP] at t3 u3 g3 z3 t4 u4 g4 z4 t24 u24 g24 z24 t28 u28 g28 z28 c14 c8 c37 mixed HLD ⊢
    have HP := Lib.hid hP.symm
    clear hP hk30 hk40
    have hAk : A.size = k30 := by rw [HK24.out]; exact hsz
    have hPk : P.size = k40 := by rw [HK28.out]; exact hPs
    clear hsz hPs
    rw [hw1] at HF HLD
    go_wp2_with fail
    obtain ⟨nb, hnb⟩ : ∃ nb, w.heap.size = nb := ⟨_, rfl⟩
    rw [hnb] at HLD ⊢
    have HSS : Hid (∀ w', Fr No w1 w' → Sem.run PD (loadCellsFrom ⟨nb, 0, none⟩ 0 k30 #[]) w' = .ok A w' ∧ w'.cell? ⟨nb, 17, none⟩ = some (.int .i64 k)) := fun w' hf => ⟨by rw [HK24.out]; exact (HLD.out w' hf).1, (HLD.out w' hf).2⟩
    clear hnb hw1
    have f5 : Fr No w1 w1.drew := Fr.drew No _
    have hS0 := HSS.out _ f5
    refine wp_region_noPanic ?_
    refine wp_region_held_drew (S := (fun w' : World => Sem.run PD (loadCellsFrom ⟨nb, 0, none⟩ 0 k30 #[]) w' = .ok A w' ∧ w'.cell? ⟨nb, 17, none⟩ = some (.int .i64 k))) (by kernel_rfl) hS0 (fun hHeld => ?_)
    refine wpAnyH_take (i := 0) (oi := { dst := some 4, op := Op.fieldAddr 28 (Operand.tmp 1) 0, type := 0, pos := "ref.go:383", after := #[], guard := none }) (v := ?v0c) rfl (by kernel_rfl) (by kernel_rfl) (by kernel_rfl) (fun _ _ _ h => h) (Or.inl ⟨by rfl, ?hy0c⟩) hHeld ?nx0c
    case hy0c => (intro w hSw; (try dsimp only at hSw); go_simp; try with_reducible rfl)
    try simp only [Act.put, List.setIfInBounds_toArray, List.set_cons_zero, List.set_cons_succ]
    refine wpAnyH_take (i := 1) (oi := { dst := some 5, op := Op.load 24 (Operand.tmp 4), type := 24, pos := "ref.go:383", after := #[{ on := 0, ground := Ground.data }], guard := none }) (v := ?v1c) rfl (by kernel_rfl) (by kernel_rfl) (by kernel_rfl) (fun _ _ _ h => h) (Or.inl ⟨by rfl, ?hy1c⟩) hHeld ?nx1c
    case hy1c => (intro w hSw; (try dsimp only at hSw); go_simp; try with_reducible rfl)
    try simp only [Act.put, List.setIfInBounds_toArray, List.set_cons_zero, List.set_cons_succ]
    refine wpAnyH_ready (rs := [2]) (by kernel_rfl) (by simp) ?_
    refine AllReadyH.cons (o := { dst := some 6, op := Op.call { callee := Callee.value (Operand.func 14), args := #[Operand.tmp 5], argTypes := #[24] }, type := 4, pos := "ref.go:383", after := #[{ on := 1, ground := Ground.data }], guard := none }) rfl (fun K hK => ?_) AllReadyH.nil
    go_simp
    go_at_call 14
    refine (at_prog HP.out (HVA.out _)).mono ?_
    rintro e x0 ⟨rfl, h0⟩
    have g0 := f5.trans h0
    have hS := HSS.out _ g0
    clear h0
    refine hK.out _ _ hS (fun hH2 => ?_)
    clear hK K hHeld
    have hHeld := hH2
    clear hH2 hS
    try simp only [Act.put, List.setIfInBounds_toArray, List.set_cons_zero, List.set_cons_succ]
    refine wpAnyH_take (i := 3) (oi := { dst := some 7, op := Op.unOp UnOp.not 4 (Operand.tmp 6), type := 4, pos := "ref.go:383", after := #[{ on := 2, ground := Ground.data }], guard := none }) (v := ?v3c) rfl (by kernel_rfl) (by kernel_rfl) (by kernel_rfl) (fun _ _ _ h => h) (Or.inl ⟨by rfl, ?hy3c⟩) hHeld ?nx3c
    case hy3c => (intro w hSw; (try dsimp only at hSw); go_simp; try with_reducible rfl)
    try simp only [Act.put, List.setIfInBounds_toArray, List.set_cons_zero, List.set_cons_succ]
    refine wpAnyH_take (i := 4) (oi := { dst := some 8, op := Op.move (Operand.tmp 7), type := 4, pos := "ref.go:383", after := #[{ on := 3, ground := Ground.data }, { on := 2, ground := Ground.chain }], guard := none }) (v := ?v4c) rfl (by kernel_rfl) (by kernel_rfl) (by kernel_rfl) (fun _ _ _ h => h) (Or.inl ⟨by rfl, ?hy4c⟩) hHeld ?nx4c
    case hy4c => (intro w hSw; (try dsimp only at hSw); go_simp; try with_reducible rfl)
    try simp only [Act.put, List.setIfInBounds_toArray, List.set_cons_zero, List.set_cons_succ]
    refine wpAnyH_take (i := 5) (oi := { dst := some 9, op := Op.fieldAddr 28 (Operand.tmp 1) 1, type := 0, pos := "ref.go:383", after := #[{ on := 4, ground := Ground.guard }], guard := some (4, false) }) (v := ?v5c) rfl (by kernel_rfl) (by kernel_rfl) (by kernel_rfl) (fun _ _ _ h => h) (Or.inl ⟨by rfl, ?hy5c⟩) hHeld ?nx5c
    case hy5c => (intro w hSw; (try dsimp only at hSw); go_simp; try with_reducible rfl)
    try simp only [Act.put, List.setIfInBounds_toArray, List.set_cons_zero, List.set_cons_succ]
    refine wpAnyH_take (i := 6) (oi := { dst := some 10, op := Op.load 3 (Operand.tmp 9), type := 3, pos := "ref.go:383", after := #[{ on := 5, ground := Ground.data }, { on := 4, ground := Ground.guard }], guard := some (4, false) }) (v := ?v6c) rfl (by kernel_rfl) (by kernel_rfl) (by kernel_rfl) (fun _ _ _ h => h) (Or.inl ⟨by rfl, ?hy6c⟩) hHeld ?nx6c
    case hy6c => (intro w hSw; (try dsimp only at hSw); go_simp; try with_reducible rfl)
    try simp only [Act.put, List.setIfInBounds_toArray, List.set_cons_zero, List.set_cons_succ]
    refine wpAnyH_take (i := 7) (oi := { dst := some 11, op := Op.binOp BinOp.lss 3 (Operand.tmp 10) (Operand.const (Value.int IntKind.i64 0)) 3, type := 4, pos := "ref.go:383", after := #[{ on := 6, ground := Ground.data }, { on := 4, ground := Ground.guard }], guard := some (4, false) }) (v := ?v7c) rfl (by kernel_rfl) (by kernel_rfl) (by kernel_rfl) (fun _ _ _ h => h) (Or.inl ⟨by rfl, ?hy7c⟩) hHeld ?nx7c
    case hy7c => (intro w hSw; (try dsimp only at hSw); go_simp; try with_reducible rfl)
    try simp only [Act.put, List.setIfInBounds_toArray, List.set_cons_zero, List.set_cons_succ]
    refine wpAnyH_take (i := 8) (oi := { dst := some 12, op := Op.pick (Operand.tmp 8) (Operand.const (Value.bool true)) (Operand.tmp 11), type := 4, pos := "ref.go:383", after := #[{ on := 4, ground := Ground.data }, { on := 7, ground := Ground.data }], guard := none }) (v := ?v8c) rfl (by kernel_rfl) (by kernel_rfl) (by kernel_rfl) (fun _ _ _ h => h) (Or.inl ⟨by rfl, ?hy8c⟩) hHeld ?nx8c
    case hy8c => (intro w hSw; (try dsimp only at hSw); go_simp; try with_reducible rfl)
    try simp only [Act.put, List.setIfInBounds_toArray, List.set_cons_zero, List.set_cons_succ]
    refine wpAnyH_take (i := 9) (oi := { dst := some 13, op := Op.move (Operand.tmp 12), type := 4, pos := "ref.go:383", after := #[{ on := 8, ground := Ground.data }, { on := 4, ground := Ground.chain }], guard := none }) (v := ?v9c) rfl (by kernel_rfl) (by kernel_rfl) (by kernel_rfl) (fun _ _ _ h => h) (Or.inl ⟨by rfl, ?hy9c⟩) hHeld ?nx9c
    case hy9c => (intro w hSw; (try dsimp only at hSw); go_simp; try with_reducible rfl)
    try simp only [Act.put, List.setIfInBounds_toArray, List.set_cons_zero, List.set_cons_succ]
    refine wpAnyH_take (i := 10) (oi := { dst := some 14, op := Op.fieldAddr 28 (Operand.tmp 1) 1, type := 0, pos := "ref.go:383", after := #[{ on := 9, ground := Ground.guard }], guard := some (9, false) }) (v := ?v10c) rfl (by kernel_rfl) (by kernel_rfl) (by kernel_rfl) (fun _ _ _ h => h) (Or.inl ⟨by rfl, ?hy10c⟩) hHeld ?nx10c
    case hy10c => (intro w hSw; (try dsimp only at hSw); go_simp; try with_reducible rfl)
    try simp only [Act.put, List.setIfInBounds_toArray, List.set_cons_zero, List.set_cons_succ]
    refine wpAnyH_take (i := 11) (oi := { dst := some 15, op := Op.load 3 (Operand.tmp 14), type := 3, pos := "ref.go:383", after := #[{ on := 10, ground := Ground.data }, { on := 9, ground := Ground.guard }], guard := some (9, false) }) (v := ?v11c) rfl (by kernel_rfl) (by kernel_rfl) (by kernel_rfl) (fun _ _ _ h => h) (Or.inl ⟨by rfl, ?hy11c⟩) hHeld ?nx11c
    case hy11c => (intro w hSw; (try dsimp only at hSw); go_simp; try with_reducible rfl)
    try simp only [Act.put, List.setIfInBounds_toArray, List.set_cons_zero, List.set_cons_succ]
    refine wpAnyH_take (i := 12) (oi := { dst := some 16, op := Op.fieldAddr 28 (Operand.tmp 1) 0, type := 0, pos := "ref.go:383", after := #[{ on := 9, ground := Ground.guard }], guard := some (9, false) }) (v := ?v12c) rfl (by kernel_rfl) (by kernel_rfl) (by kernel_rfl) (fun _ _ _ h => h) (Or.inl ⟨by rfl, ?hy12c⟩) hHeld ?nx12c
    case hy12c => (intro w hSw; (try dsimp only at hSw); go_simp; try with_reducible rfl)
    try simp only [Act.put, List.setIfInBounds_toArray, List.set_cons_zero, List.set_cons_succ]
    refine wpAnyH_take (i := 13) (oi := { dst := some 17, op := Op.load 24 (Operand.tmp 16), type := 24, pos := "ref.go:383", after := #[{ on := 12, ground := Ground.data }, { on := 9, ground := Ground.guard }], guard := some (9, false) }) (v := ?v13c) rfl (by kernel_rfl) (by kernel_rfl) (by kernel_rfl) (fun _ _ _ h => h) (Or.inl ⟨by rfl, ?hy13c⟩) hHeld ?nx13c
    case hy13c => (intro w hSw; (try dsimp only at hSw); go_simp; try with_reducible rfl)
    try simp only [Act.put, List.setIfInBounds_toArray, List.set_cons_zero, List.set_cons_succ]
    refine wpAnyH_ready (rs := [14]) (by kernel_rfl) (by simp) ?_
    refine AllReadyH.cons (o := { dst := some 18, op := Op.call { callee := Callee.value (Operand.func 8), args := #[Operand.tmp 17], argTypes := #[24] }, type := 3, pos := "ref.go:383", after := #[{ on := 13, ground := Ground.data }, { on := 9, ground := Ground.chain }, { on := 9, ground := Ground.guard }], guard := some (9, false) }) rfl (fun K hK => ?_) AllReadyH.nil
    go_simp
    go_at_call 8
    refine (at_prog HP.out (HBL.out _)).mono ?_
    rintro e x1 ⟨rfl, h1⟩
    have g1 := g0.trans h1
    have hS := HSS.out _ g1
    clear h1
    refine hK.out _ _ hS (fun hH2 => ?_)
    clear hK K hHeld
    have hHeld := hH2
    clear hH2 hS
    try simp only [Act.put, List.setIfInBounds_toArray, List.set_cons_zero, List.set_cons_succ]
    refine wpAnyH_take (i := 15) (oi := { dst := some 19, op := Op.binOp BinOp.gtr 3 (Operand.tmp 15) (Operand.tmp 18) 3, type := 4, pos := "ref.go:383", after := #[{ on := 11, ground := Ground.data }, { on := 14, ground := Ground.data }, { on := 9, ground := Ground.guard }], guard := some (9, false) }) (v := ?v15c) rfl (by kernel_rfl) (by kernel_rfl) (by kernel_rfl) (fun _ _ _ h => h) (Or.inl ⟨by rfl, ?hy15c⟩) hHeld ?nx15c
    case hy15c => (intro w hSw; (try dsimp only at hSw); go_simp; try with_reducible rfl)
    try simp only [Act.put, List.setIfInBounds_toArray, List.set_cons_zero, List.set_cons_succ]
    refine wpAnyH_take (i := 16) (oi := { dst := some 20, op := Op.pick (Operand.tmp 13) (Operand.const (Value.bool true)) (Operand.tmp 19), type := 4, pos := "ref.go:383", after := #[{ on := 9, ground := Ground.data }, { on := 15, ground := Ground.data }], guard := none }) (v := ?v16c) rfl (by kernel_rfl) (by kernel_rfl) (by kernel_rfl) (fun _ _ _ h => h) (Or.inl ⟨by rfl, ?hy16c⟩) hHeld ?nx16c
    case hy16c => (intro w hSw; (try dsimp only at hSw); go_simp; try with_reducible rfl)
    try simp only [Act.put, List.setIfInBounds_toArray, List.set_cons_zero, List.set_cons_succ]
    refine wpAnyH_done (by kernel_rfl) ?_ _
    refine NoPanic.normal ?_
    have HG := Lib.hid g1
    obtain ⟨m1, n1⟩ := hHeld
    clear g0 g1 hS0
    go_wp2_with fail
    clear m1 n1
    go_loopg [3] (B - k + 1) (fun g s wr => ∃ i : Nat, s = .int .i64 i ∧ k ≤ i ∧ i ≤ B ∧ B - i < g ∧ Hid (Fr No x1 wr ∧ ∀ j : Nat, k ≤ j → j < i → bitX xs j = 0))
    case atStart => exact ⟨k, by go_num, Nat.le_refl _, hkB, by omega, Fr.refl _ _, fun j h1 h2 => by omega⟩
    case round =>
      obtain ⟨i, rfl, hni, hiB, hig, HR⟩ := hrel
      have HM : Hid (∀ w', Fr No wr w' → Sem.run PD (loadCellsFrom ⟨nb, 0, none⟩ 0 k30 #[]) w' = .ok A w') := fun w' hf => (HSS.out w' ((HG.out.trans HR.out.1).trans hf)).1
      have m2 := HM.out wr (Fr.refl _ _)
      by_cases hi : i = B
      · have HV : Hid (tz = true) := HTZ.out.2 fun j h1 h2 h3 => HR.out.2 j (by omega) (by omega)
        have hib : ¬ (i : Int) < (B : Int) := by omega
        go_wp2_with (first | (go_at_call 8; refine (at_prog HP.out (HBL.out _)).mono ?_; rintro e w5 ⟨rfl, hf5⟩) | fail)
        go_ret
        exact ⟨by rw [HV.out]; rfl, ((HF.out.trans HG.out).trans HR.out.1).trans hf5⟩
      · have hib : (i : Int) < (B : Int) := by omega
        have HB2 := Lib.hid (HBT.out i hib)
        have hx2 := bitX_lt xs i
        obtain ⟨x, hx⟩ : ∃ x, bitX xs i = x := ⟨_, rfl⟩
        rw [hx] at HB2 hx2
        have HX := Lib.hid hx
        clear hx
        by_cases hx0 : x = 0
        · have hxi : (x : Int) = 0 := by omega
          rw [hxi] at HB2
          go_wp2_with (first | (go_at_call 8; refine (at_prog HP.out (HBL.out _)).mono ?_; rintro e w5 ⟨rfl, hf5⟩; have m3 := HM.out w5 hf5) | (go_at_call 37; refine (at_prog HP.out (HB2.out _)).mono ?_; rintro e w6 ⟨rfl, hf6⟩) | fail)
          have HW := Lib.hid ((HR.out.1.trans hf5).trans hf6)
          clear hf5 hf6 m3 m2
          go_roundg (B - i)
          case measure => exact hig
          case rel =>
            refine ⟨i + 1, by go_num, by omega, by omega, by omega, HW.out, fun j h1 h2 => ?_⟩
            by_cases hj : j = i
            · rw [hj, HX.out, hx0]
            · exact HR.out.2 j h1 (by omega)
        · have HV : Hid (tz = false) := by
            show _ = _
            cases htz : tz with
            | false => rfl
            | true => exact absurd (HX.out.symm.trans (HTZ.out.1 htz i (by omega) (by omega) hib)) hx0
          have hxi : ¬ (x : Int) = 0 := by omega
          go_wp2_with (first | (go_at_call 8; refine (at_prog HP.out (HBL.out _)).mono ?_; rintro e w5 ⟨rfl, hf5⟩; have m3 := HM.out w5 hf5) | (go_at_call 37; refine (at_prog HP.out (HB2.out _)).mono ?_; rintro e w6 ⟨rfl, hf6⟩) | fail)
          go_ret
          exact ⟨by rw [HV.out]; rfl, (((HF.out.trans HG.out).trans HR.out.1).trans hf5).trans hf6⟩
  · clear HBT HTZ HBO HR HBL
    go_enter Try.func32, Try.ntmps32
    have t3 := Try.underlying3
    have u3 := Try.runUnderlying3
    have g3 := Try.isAgg3
    have z3 := Try.sizeOf3
    have t4 := Try.underlying4
    have u4 := Try.runUnderlying4
    have g4 := Try.isAgg4
    have z4 := Try.sizeOf4
    have t24 := Try.underlying24
    have u24 := Try.runUnderlying24
    have g24 := Try.isAgg24
    have z24 := Try.sizeOf24
    have t28 := Try.underlying28
    have u28 := Try.runUnderlying28
    have g28 := Try.isAgg28
    have z28 := Try.sizeOf28
    have c14 := Try.call14
    have c8 := Try.call8
    have c37 := Try.call37
    have mixed : Try.prog.follows .mixedOrders = true := by kernel_rfl
    obtain ⟨k30, hk30⟩ : ∃ k, k = 17 := ⟨_, rfl⟩
    rw [← hk30] at z24
    have nk30 : ¬ k30 = 0 := by omega
    have HK24 := Lib.hid hk30
    obtain ⟨k40, hk40⟩ : ∃ k, k = 18 := ⟨_, rfl⟩
    rw [← hk40] at z28
    have nk40 : ¬ k40 = 0 := by omega
    have HK28 := Lib.hid hk40
    have hP : Try.prog = PD := rfl
    rw [hP] at t3 u3 g3 z3 t4 u4 g4 z4 t24 u24 g24 z24 t28 u28 g28 z28 c14 c8 c37 mixed HLD ⊢
    have HP := Lib.hid hP.symm
    clear hP hk30 hk40
    have hAk : A.size = k30 := by rw [HK24.out]; exact hsz
    have hPk : P.size = k40 := by rw [HK28.out]; exact hPs
    clear hsz hPs
    rw [hw1] at HF HLD
    go_wp2_with fail
    obtain ⟨nb, hnb⟩ : ∃ nb, w.heap.size = nb := ⟨_, rfl⟩
    rw [hnb] at HLD ⊢
    have HSS : Hid (∀ w', Fr No w1 w' → Sem.run PD (loadCellsFrom ⟨nb, 0, none⟩ 0 k30 #[]) w' = .ok A w' ∧ w'.cell? ⟨nb, 17, none⟩ = some (.int .i64 n)) := fun w' hf => ⟨by rw [HK24.out]; exact (HLD.out w' hf).1, (HLD.out w' hf).2⟩
    clear hnb hw1
    have f5 : Fr No w1 w1.drew := Fr.drew No _
    have hS0 := HSS.out _ f5
    refine wp_region_noPanic ?_
    refine wp_region_held_drew (S := (fun w' : World => Sem.run PD (loadCellsFrom ⟨nb, 0, none⟩ 0 k30 #[]) w' = .ok A w' ∧ w'.cell? ⟨nb, 17, none⟩ = some (.int .i64 n))) (by kernel_rfl) hS0 (fun hHeld => ?_)
    refine wpAnyH_take (i := 0) (oi := { dst := some 4, op := Op.fieldAddr 28 (Operand.tmp 1) 0, type := 0, pos := "ref.go:383", after := #[], guard := none }) (v := ?v0a) rfl (by kernel_rfl) (by kernel_rfl) (by kernel_rfl) (fun _ _ _ h => h) (Or.inl ⟨by rfl, ?hy0a⟩) hHeld ?nx0a
    case hy0a => (intro w hSw; (try dsimp only at hSw); go_simp; try with_reducible rfl)
    try simp only [Act.put, List.setIfInBounds_toArray, List.set_cons_zero, List.set_cons_succ]
    refine wpAnyH_take (i := 1) (oi := { dst := some 5, op := Op.load 24 (Operand.tmp 4), type := 24, pos := "ref.go:383", after := #[{ on := 0, ground := Ground.data }], guard := none }) (v := ?v1a) rfl (by kernel_rfl) (by kernel_rfl) (by kernel_rfl) (fun _ _ _ h => h) (Or.inl ⟨by rfl, ?hy1a⟩) hHeld ?nx1a
    case hy1a => (intro w hSw; (try dsimp only at hSw); go_simp; try with_reducible rfl)
    try simp only [Act.put, List.setIfInBounds_toArray, List.set_cons_zero, List.set_cons_succ]
    refine wpAnyH_ready (rs := [2]) (by kernel_rfl) (by simp) ?_
    refine AllReadyH.cons (o := { dst := some 6, op := Op.call { callee := Callee.value (Operand.func 14), args := #[Operand.tmp 5], argTypes := #[24] }, type := 4, pos := "ref.go:383", after := #[{ on := 1, ground := Ground.data }], guard := none }) rfl (fun K hK => ?_) AllReadyH.nil
    go_simp
    go_at_call 14
    refine (at_prog HP.out (HVA.out _)).mono ?_
    rintro e x0 ⟨rfl, h0⟩
    have g0 := f5.trans h0
    have hS := HSS.out _ g0
    clear h0
    refine hK.out _ _ hS (fun hH2 => ?_)
    clear hK K hHeld
    have hHeld := hH2
    clear hH2 hS
    try simp only [Act.put, List.setIfInBounds_toArray, List.set_cons_zero, List.set_cons_succ]
    refine wpAnyH_take (i := 3) (oi := { dst := some 7, op := Op.unOp UnOp.not 4 (Operand.tmp 6), type := 4, pos := "ref.go:383", after := #[{ on := 2, ground := Ground.data }], guard := none }) (v := ?v3a) rfl (by kernel_rfl) (by kernel_rfl) (by kernel_rfl) (fun _ _ _ h => h) (Or.inl ⟨by rfl, ?hy3a⟩) hHeld ?nx3a
    case hy3a => (intro w hSw; (try dsimp only at hSw); go_simp; try with_reducible rfl)
    try simp only [Act.put, List.setIfInBounds_toArray, List.set_cons_zero, List.set_cons_succ]
    refine wpAnyH_take (i := 4) (oi := { dst := some 8, op := Op.move (Operand.tmp 7), type := 4, pos := "ref.go:383", after := #[{ on := 3, ground := Ground.data }, { on := 2, ground := Ground.chain }], guard := none }) (v := ?v4a) rfl (by kernel_rfl) (by kernel_rfl) (by kernel_rfl) (fun _ _ _ h => h) (Or.inl ⟨by rfl, ?hy4a⟩) hHeld ?nx4a
    case hy4a => (intro w hSw; (try dsimp only at hSw); go_simp; try with_reducible rfl)
    try simp only [Act.put, List.setIfInBounds_toArray, List.set_cons_zero, List.set_cons_succ]
    refine wpAnyH_take (i := 5) (oi := { dst := some 9, op := Op.fieldAddr 28 (Operand.tmp 1) 1, type := 0, pos := "ref.go:383", after := #[{ on := 4, ground := Ground.guard }], guard := some (4, false) }) (v := undef) rfl (by kernel_rfl) (by kernel_rfl) (by kernel_rfl) (fun _ _ _ h => h) (Or.inr ⟨by rfl, rfl⟩) hHeld ?nx5a
    try simp only [Act.put, List.setIfInBounds_toArray, List.set_cons_zero, List.set_cons_succ]
    refine wpAnyH_take (i := 6) (oi := { dst := some 10, op := Op.load 3 (Operand.tmp 9), type := 3, pos := "ref.go:383", after := #[{ on := 5, ground := Ground.data }, { on := 4, ground := Ground.guard }], guard := some (4, false) }) (v := undef) rfl (by kernel_rfl) (by kernel_rfl) (by kernel_rfl) (fun _ _ _ h => h) (Or.inr ⟨by rfl, rfl⟩) hHeld ?nx6a
    try simp only [Act.put, List.setIfInBounds_toArray, List.set_cons_zero, List.set_cons_succ]
    refine wpAnyH_take (i := 7) (oi := { dst := some 11, op := Op.binOp BinOp.lss 3 (Operand.tmp 10) (Operand.const (Value.int IntKind.i64 0)) 3, type := 4, pos := "ref.go:383", after := #[{ on := 6, ground := Ground.data }, { on := 4, ground := Ground.guard }], guard := some (4, false) }) (v := undef) rfl (by kernel_rfl) (by kernel_rfl) (by kernel_rfl) (fun _ _ _ h => h) (Or.inr ⟨by rfl, rfl⟩) hHeld ?nx7a
    try simp only [Act.put, List.setIfInBounds_toArray, List.set_cons_zero, List.set_cons_succ]
    refine wpAnyH_take (i := 8) (oi := { dst := some 12, op := Op.pick (Operand.tmp 8) (Operand.const (Value.bool true)) (Operand.tmp 11), type := 4, pos := "ref.go:383", after := #[{ on := 4, ground := Ground.data }, { on := 7, ground := Ground.data }], guard := none }) (v := ?v8a) rfl (by kernel_rfl) (by kernel_rfl) (by kernel_rfl) (fun _ _ _ h => h) (Or.inl ⟨by rfl, ?hy8a⟩) hHeld ?nx8a
    case hy8a => (intro w hSw; (try dsimp only at hSw); go_simp; try with_reducible rfl)
    try simp only [Act.put, List.setIfInBounds_toArray, List.set_cons_zero, List.set_cons_succ]
    refine wpAnyH_take (i := 9) (oi := { dst := some 13, op := Op.move (Operand.tmp 12), type := 4, pos := "ref.go:383", after := #[{ on := 8, ground := Ground.data }, { on := 4, ground := Ground.chain }], guard := none }) (v := ?v9a) rfl (by kernel_rfl) (by kernel_rfl) (by kernel_rfl) (fun _ _ _ h => h) (Or.inl ⟨by rfl, ?hy9a⟩) hHeld ?nx9a
    case hy9a => (intro w hSw; (try dsimp only at hSw); go_simp; try with_reducible rfl)
    try simp only [Act.put, List.setIfInBounds_toArray, List.set_cons_zero, List.set_cons_succ]
    refine wpAnyH_take (i := 10) (oi := { dst := some 14, op := Op.fieldAddr 28 (Operand.tmp 1) 1, type := 0, pos := "ref.go:383", after := #[{ on := 9, ground := Ground.guard }], guard := some (9, false) }) (v := undef) rfl (by kernel_rfl) (by kernel_rfl) (by kernel_rfl) (fun _ _ _ h => h) (Or.inr ⟨by rfl, rfl⟩) hHeld ?nx10a
    try simp only [Act.put, List.setIfInBounds_toArray, List.set_cons_zero, List.set_cons_succ]
    refine wpAnyH_take (i := 11) (oi := { dst := some 15, op := Op.load 3 (Operand.tmp 14), type := 3, pos := "ref.go:383", after := #[{ on := 10, ground := Ground.data }, { on := 9, ground := Ground.guard }], guard := some (9, false) }) (v := undef) rfl (by kernel_rfl) (by kernel_rfl) (by kernel_rfl) (fun _ _ _ h => h) (Or.inr ⟨by rfl, rfl⟩) hHeld ?nx11a
    try simp only [Act.put, List.setIfInBounds_toArray, List.set_cons_zero, List.set_cons_succ]
    refine wpAnyH_take (i := 12) (oi := { dst := some 16, op := Op.fieldAddr 28 (Operand.tmp 1) 0, type := 0, pos := "ref.go:383", after := #[{ on := 9, ground := Ground.guard }], guard := some (9, false) }) (v := undef) rfl (by kernel_rfl) (by kernel_rfl) (by kernel_rfl) (fun _ _ _ h => h) (Or.inr ⟨by rfl, rfl⟩) hHeld ?nx12a
    try simp only [Act.put, List.setIfInBounds_toArray, List.set_cons_zero, List.set_cons_succ]
    refine wpAnyH_take (i := 13) (oi := { dst := some 17, op := Op.load 24 (Operand.tmp 16), type := 24, pos := "ref.go:383", after := #[{ on := 12, ground := Ground.data }, { on := 9, ground := Ground.guard }], guard := some (9, false) }) (v := undef) rfl (by kernel_rfl) (by kernel_rfl) (by kernel_rfl) (fun _ _ _ h => h) (Or.inr ⟨by rfl, rfl⟩) hHeld ?nx13a
    try simp only [Act.put, List.setIfInBounds_toArray, List.set_cons_zero, List.set_cons_succ]
    refine wpAnyH_take (i := 14) (oi := { dst := some 18, op := Op.call { callee := Callee.value (Operand.func 8), args := #[Operand.tmp 17], argTypes := #[24] }, type := 3, pos := "ref.go:383", after := #[{ on := 13, ground := Ground.data }, { on := 9, ground := Ground.chain }, { on := 9, ground := Ground.guard }], guard := some (9, false) }) (v := undef) rfl (by kernel_rfl) (by kernel_rfl) (by kernel_rfl) (fun _ _ _ h => h) (Or.inr ⟨by rfl, rfl⟩) hHeld ?nx14a
    try simp only [Act.put, List.setIfInBounds_toArray, List.set_cons_zero, List.set_cons_succ]
    refine wpAnyH_take (i := 15) (oi := { dst := some 19, op := Op.binOp BinOp.gtr 3 (Operand.tmp 15) (Operand.tmp 18) 3, type := 4, pos := "ref.go:383", after := #[{ on := 11, ground := Ground.data }, { on := 14, ground := Ground.data }, { on := 9, ground := Ground.guard }], guard := some (9, false) }) (v := undef) rfl (by kernel_rfl) (by kernel_rfl) (by kernel_rfl) (fun _ _ _ h => h) (Or.inr ⟨by rfl, rfl⟩) hHeld ?nx15a
    try simp only [Act.put, List.setIfInBounds_toArray, List.set_cons_zero, List.set_cons_succ]
    refine wpAnyH_take (i := 16) (oi := { dst := some 20, op := Op.pick (Operand.tmp 13) (Operand.const (Value.bool true)) (Operand.tmp 19), type := 4, pos := "ref.go:383", after := #[{ on := 9, ground := Ground.data }, { on := 15, ground := Ground.data }], guard := none }) (v := ?v16a) rfl (by kernel_rfl) (by kernel_rfl) (by kernel_rfl) (fun _ _ _ h => h) (Or.inl ⟨by rfl, ?hy16a⟩) hHeld ?nx16a
    case hy16a => (intro w hSw; (try dsimp only at hSw); go_simp; try with_reducible rfl)
    try simp only [Act.put, List.setIfInBounds_toArray, List.set_cons_zero, List.set_cons_succ]
    refine wpAnyH_done (by kernel_rfl) ?_ _
    refine NoPanic.normal ?_
    go_wp2_with fail
    go_ret
    exact ⟨rfl, HF.out.trans g0⟩
  · have q1 : decide (n < 0) = true := decide_eq_true p1
    rw [decide_eq_false (by omega : ¬ 0 ≤ n)]
    clear HBT HTZ HBO HR HBL p1
    go_enter Try.func32, Try.ntmps32
    have t3 := Try.underlying3
    have u3 := Try.runUnderlying3
    have g3 := Try.isAgg3
    have z3 := Try.sizeOf3
    have t4 := Try.underlying4
    have u4 := Try.runUnderlying4
    have g4 := Try.isAgg4
    have z4 := Try.sizeOf4
    have t24 := Try.underlying24
    have u24 := Try.runUnderlying24
    have g24 := Try.isAgg24
    have z24 := Try.sizeOf24
    have t28 := Try.underlying28
    have u28 := Try.runUnderlying28
    have g28 := Try.isAgg28
    have z28 := Try.sizeOf28
    have c14 := Try.call14
    have c8 := Try.call8
    have c37 := Try.call37
    have mixed : Try.prog.follows .mixedOrders = true := by kernel_rfl
    obtain ⟨k30, hk30⟩ : ∃ k, k = 17 := ⟨_, rfl⟩
    rw [← hk30] at z24
    have nk30 : ¬ k30 = 0 := by omega
    have HK24 := Lib.hid hk30
    obtain ⟨k40, hk40⟩ : ∃ k, k = 18 := ⟨_, rfl⟩
    rw [← hk40] at z28
    have nk40 : ¬ k40 = 0 := by omega
    have HK28 := Lib.hid hk40
    have hP : Try.prog = PD := rfl
    rw [hP] at t3 u3 g3 z3 t4 u4 g4 z4 t24 u24 g24 z24 t28 u28 g28 z28 c14 c8 c37 mixed HLD ⊢
    have HP := Lib.hid hP.symm
    clear hP hk30 hk40
    have hAk : A.size = k30 := by rw [HK24.out]; exact hsz
    have hPk : P.size = k40 := by rw [HK28.out]; exact hPs
    clear hsz hPs
    rw [hw1] at HF HLD
    go_wp2_with fail
    obtain ⟨nb, hnb⟩ : ∃ nb, w.heap.size = nb := ⟨_, rfl⟩
    rw [hnb] at HLD ⊢
    have HSS : Hid (∀ w', Fr No w1 w' → Sem.run PD (loadCellsFrom ⟨nb, 0, none⟩ 0 k30 #[]) w' = .ok A w' ∧ w'.cell? ⟨nb, 17, none⟩ = some (.int .i64 n)) := fun w' hf => ⟨by rw [HK24.out]; exact (HLD.out w' hf).1, (HLD.out w' hf).2⟩
    clear hnb hw1
    have f5 : Fr No w1 w1.drew := Fr.drew No _
    have hS0 := HSS.out _ f5
    refine wp_region_noPanic ?_
    refine wp_region_held_drew (S := (fun w' : World => Sem.run PD (loadCellsFrom ⟨nb, 0, none⟩ 0 k30 #[]) w' = .ok A w' ∧ w'.cell? ⟨nb, 17, none⟩ = some (.int .i64 n))) (by kernel_rfl) hS0 (fun hHeld => ?_)
    refine wpAnyH_take (i := 0) (oi := { dst := some 4, op := Op.fieldAddr 28 (Operand.tmp 1) 0, type := 0, pos := "ref.go:383", after := #[], guard := none }) (v := ?v0b) rfl (by kernel_rfl) (by kernel_rfl) (by kernel_rfl) (fun _ _ _ h => h) (Or.inl ⟨by rfl, ?hy0b⟩) hHeld ?nx0b
    case hy0b => (intro w hSw; (try dsimp only at hSw); go_simp; try with_reducible rfl)
    try simp only [Act.put, List.setIfInBounds_toArray, List.set_cons_zero, List.set_cons_succ]
    refine wpAnyH_take (i := 1) (oi := { dst := some 5, op := Op.load 24 (Operand.tmp 4), type := 24, pos := "ref.go:383", after := #[{ on := 0, ground := Ground.data }], guard := none }) (v := ?v1b) rfl (by kernel_rfl) (by kernel_rfl) (by kernel_rfl) (fun _ _ _ h => h) (Or.inl ⟨by rfl, ?hy1b⟩) hHeld ?nx1b
    case hy1b => (intro w hSw; (try dsimp only at hSw); go_simp; try with_reducible rfl)
    try simp only [Act.put, List.setIfInBounds_toArray, List.set_cons_zero, List.set_cons_succ]
    refine wpAnyH_ready (rs := [2]) (by kernel_rfl) (by simp) ?_
    refine AllReadyH.cons (o := { dst := some 6, op := Op.call { callee := Callee.value (Operand.func 14), args := #[Operand.tmp 5], argTypes := #[24] }, type := 4, pos := "ref.go:383", after := #[{ on := 1, ground := Ground.data }], guard := none }) rfl (fun K hK => ?_) AllReadyH.nil
    go_simp
    go_at_call 14
    refine (at_prog HP.out (HVA.out _)).mono ?_
    rintro e x0 ⟨rfl, h0⟩
    have g0 := f5.trans h0
    have hS := HSS.out _ g0
    clear h0
    refine hK.out _ _ hS (fun hH2 => ?_)
    clear hK K hHeld
    have hHeld := hH2
    clear hH2 hS
    try simp only [Act.put, List.setIfInBounds_toArray, List.set_cons_zero, List.set_cons_succ]
    refine wpAnyH_take (i := 3) (oi := { dst := some 7, op := Op.unOp UnOp.not 4 (Operand.tmp 6), type := 4, pos := "ref.go:383", after := #[{ on := 2, ground := Ground.data }], guard := none }) (v := ?v3b) rfl (by kernel_rfl) (by kernel_rfl) (by kernel_rfl) (fun _ _ _ h => h) (Or.inl ⟨by rfl, ?hy3b⟩) hHeld ?nx3b
    case hy3b => (intro w hSw; (try dsimp only at hSw); go_simp; try with_reducible rfl)
    try simp only [Act.put, List.setIfInBounds_toArray, List.set_cons_zero, List.set_cons_succ]
    refine wpAnyH_take (i := 4) (oi := { dst := some 8, op := Op.move (Operand.tmp 7), type := 4, pos := "ref.go:383", after := #[{ on := 3, ground := Ground.data }, { on := 2, ground := Ground.chain }], guard := none }) (v := ?v4b) rfl (by kernel_rfl) (by kernel_rfl) (by kernel_rfl) (fun _ _ _ h => h) (Or.inl ⟨by rfl, ?hy4b⟩) hHeld ?nx4b
    case hy4b => (intro w hSw; (try dsimp only at hSw); go_simp; try with_reducible rfl)
    try simp only [Act.put, List.setIfInBounds_toArray, List.set_cons_zero, List.set_cons_succ]
    refine wpAnyH_take (i := 5) (oi := { dst := some 9, op := Op.fieldAddr 28 (Operand.tmp 1) 1, type := 0, pos := "ref.go:383", after := #[{ on := 4, ground := Ground.guard }], guard := some (4, false) }) (v := ?v5b) rfl (by kernel_rfl) (by kernel_rfl) (by kernel_rfl) (fun _ _ _ h => h) (Or.inl ⟨by rfl, ?hy5b⟩) hHeld ?nx5b
    case hy5b => (intro w hSw; (try dsimp only at hSw); go_simp; try with_reducible rfl)
    try simp only [Act.put, List.setIfInBounds_toArray, List.set_cons_zero, List.set_cons_succ]
    refine wpAnyH_take (i := 6) (oi := { dst := some 10, op := Op.load 3 (Operand.tmp 9), type := 3, pos := "ref.go:383", after := #[{ on := 5, ground := Ground.data }, { on := 4, ground := Ground.guard }], guard := some (4, false) }) (v := ?v6b) rfl (by kernel_rfl) (by kernel_rfl) (by kernel_rfl) (fun _ _ _ h => h) (Or.inl ⟨by rfl, ?hy6b⟩) hHeld ?nx6b
    case hy6b => (intro w hSw; (try dsimp only at hSw); go_simp; try with_reducible rfl)
    try simp only [Act.put, List.setIfInBounds_toArray, List.set_cons_zero, List.set_cons_succ]
    refine wpAnyH_take (i := 7) (oi := { dst := some 11, op := Op.binOp BinOp.lss 3 (Operand.tmp 10) (Operand.const (Value.int IntKind.i64 0)) 3, type := 4, pos := "ref.go:383", after := #[{ on := 6, ground := Ground.data }, { on := 4, ground := Ground.guard }], guard := some (4, false) }) (v := ?v7b) rfl (by kernel_rfl) (by kernel_rfl) (by kernel_rfl) (fun _ _ _ h => h) (Or.inl ⟨by rfl, ?hy7b⟩) hHeld ?nx7b
    case hy7b => (intro w hSw; (try dsimp only at hSw); go_simp; try with_reducible rfl)
    try simp only [Act.put, List.setIfInBounds_toArray, List.set_cons_zero, List.set_cons_succ]
    refine wpAnyH_take (i := 8) (oi := { dst := some 12, op := Op.pick (Operand.tmp 8) (Operand.const (Value.bool true)) (Operand.tmp 11), type := 4, pos := "ref.go:383", after := #[{ on := 4, ground := Ground.data }, { on := 7, ground := Ground.data }], guard := none }) (v := ?v8b) rfl (by kernel_rfl) (by kernel_rfl) (by kernel_rfl) (fun _ _ _ h => h) (Or.inl ⟨by rfl, ?hy8b⟩) hHeld ?nx8b
    case hy8b => (intro w hSw; (try dsimp only at hSw); go_simp; try with_reducible rfl)
    try simp only [Act.put, List.setIfInBounds_toArray, List.set_cons_zero, List.set_cons_succ]
    refine wpAnyH_take (i := 9) (oi := { dst := some 13, op := Op.move (Operand.tmp 12), type := 4, pos := "ref.go:383", after := #[{ on := 8, ground := Ground.data }, { on := 4, ground := Ground.chain }], guard := none }) (v := ?v9b) rfl (by kernel_rfl) (by kernel_rfl) (by kernel_rfl) (fun _ _ _ h => h) (Or.inl ⟨by rfl, ?hy9b⟩) hHeld ?nx9b
    case hy9b => (intro w hSw; (try dsimp only at hSw); go_simp; try with_reducible rfl)
    try simp only [Act.put, List.setIfInBounds_toArray, List.set_cons_zero, List.set_cons_succ]
    refine wpAnyH_take (i := 10) (oi := { dst := some 14, op := Op.fieldAddr 28 (Operand.tmp 1) 1, type := 0, pos := "ref.go:383", after := #[{ on := 9, ground := Ground.guard }], guard := some (9, false) }) (v := undef) rfl (by kernel_rfl) (by kernel_rfl) (by kernel_rfl) (fun _ _ _ h => h) (Or.inr ⟨by rfl, rfl⟩) hHeld ?nx10b
    try simp only [Act.put, List.setIfInBounds_toArray, List.set_cons_zero, List.set_cons_succ]
    refine wpAnyH_take (i := 11) (oi := { dst := some 15, op := Op.load 3 (Operand.tmp 14), type := 3, pos := "ref.go:383", after := #[{ on := 10, ground := Ground.data }, { on := 9, ground := Ground.guard }], guard := some (9, false) }) (v := undef) rfl (by kernel_rfl) (by kernel_rfl) (by kernel_rfl) (fun _ _ _ h => h) (Or.inr ⟨by rfl, rfl⟩) hHeld ?nx11b
    try simp only [Act.put, List.setIfInBounds_toArray, List.set_cons_zero, List.set_cons_succ]
    refine wpAnyH_take (i := 12) (oi := { dst := some 16, op := Op.fieldAddr 28 (Operand.tmp 1) 0, type := 0, pos := "ref.go:383", after := #[{ on := 9, ground := Ground.guard }], guard := some (9, false) }) (v := undef) rfl (by kernel_rfl) (by kernel_rfl) (by kernel_rfl) (fun _ _ _ h => h) (Or.inr ⟨by rfl, rfl⟩) hHeld ?nx12b
    try simp only [Act.put, List.setIfInBounds_toArray, List.set_cons_zero, List.set_cons_succ]
    refine wpAnyH_take (i := 13) (oi := { dst := some 17, op := Op.load 24 (Operand.tmp 16), type := 24, pos := "ref.go:383", after := #[{ on := 12, ground := Ground.data }, { on := 9, ground := Ground.guard }], guard := some (9, false) }) (v := undef) rfl (by kernel_rfl) (by kernel_rfl) (by kernel_rfl) (fun _ _ _ h => h) (Or.inr ⟨by rfl, rfl⟩) hHeld ?nx13b
    try simp only [Act.put, List.setIfInBounds_toArray, List.set_cons_zero, List.set_cons_succ]
    refine wpAnyH_take (i := 14) (oi := { dst := some 18, op := Op.call { callee := Callee.value (Operand.func 8), args := #[Operand.tmp 17], argTypes := #[24] }, type := 3, pos := "ref.go:383", after := #[{ on := 13, ground := Ground.data }, { on := 9, ground := Ground.chain }, { on := 9, ground := Ground.guard }], guard := some (9, false) }) (v := undef) rfl (by kernel_rfl) (by kernel_rfl) (by kernel_rfl) (fun _ _ _ h => h) (Or.inr ⟨by rfl, rfl⟩) hHeld ?nx14b
    try simp only [Act.put, List.setIfInBounds_toArray, List.set_cons_zero, List.set_cons_succ]
    refine wpAnyH_take (i := 15) (oi := { dst := some 19, op := Op.binOp BinOp.gtr 3 (Operand.tmp 15) (Operand.tmp 18) 3, type := 4, pos := "ref.go:383", after := #[{ on := 11, ground := Ground.data }, { on := 14, ground := Ground.data }, { on := 9, ground := Ground.guard }], guard := some (9, false) }) (v := undef) rfl (by kernel_rfl) (by kernel_rfl) (by kernel_rfl) (fun _ _ _ h => h) (Or.inr ⟨by rfl, rfl⟩) hHeld ?nx15b
    try simp only [Act.put, List.setIfInBounds_toArray, List.set_cons_zero, List.set_cons_succ]
    refine wpAnyH_take (i := 16) (oi := { dst := some 20, op := Op.pick (Operand.tmp 13) (Operand.const (Value.bool true)) (Operand.tmp 19), type := 4, pos := "ref.go:383", after := #[{ on := 9, ground := Ground.data }, { on := 15, ground := Ground.data }], guard := none }) (v := ?v16b) rfl (by kernel_rfl) (by kernel_rfl) (by kernel_rfl) (fun _ _ _ h => h) (Or.inl ⟨by rfl, ?hy16b⟩) hHeld ?nx16b
    case hy16b => (intro w hSw; (try dsimp only at hSw); go_simp; try with_reducible rfl)
    try simp only [Act.put, List.setIfInBounds_toArray, List.set_cons_zero, List.set_cons_succ]
    refine wpAnyH_done (by kernel_rfl) ?_ _
    refine NoPanic.normal ?_
    go_wp2_with fail
    go_ret
    exact ⟨rfl, HF.out.trans g0⟩
  · have q1 : decide (n < 0) = false := decide_eq_false (by omega)
    have q2 : decide (L < n) = true := decide_eq_true p2
    rw [decide_eq_false (by omega : ¬ n ≤ L), Bool.and_false]
    clear HBT HTZ HBO HR p0 p2
    go_enter Try.func32, Try.ntmps32
    have t3 := Try.underlying3
    have u3 := Try.runUnderlying3
    have g3 := Try.isAgg3
    have z3 := Try.sizeOf3
    have t4 := Try.underlying4
    have u4 := Try.runUnderlying4
    have g4 := Try.isAgg4
    have z4 := Try.sizeOf4
    have t24 := Try.underlying24
    have u24 := Try.runUnderlying24
    have g24 := Try.isAgg24
    have z24 := Try.sizeOf24
    have t28 := Try.underlying28
    have u28 := Try.runUnderlying28
    have g28 := Try.isAgg28
    have z28 := Try.sizeOf28
    have c14 := Try.call14
    have c8 := Try.call8
    have c37 := Try.call37
    have mixed : Try.prog.follows .mixedOrders = true := by kernel_rfl
    obtain ⟨k30, hk30⟩ : ∃ k, k = 17 := ⟨_, rfl⟩
    rw [← hk30] at z24
    have nk30 : ¬ k30 = 0 := by omega
    have HK24 := Lib.hid hk30
    obtain ⟨k40, hk40⟩ : ∃ k, k = 18 := ⟨_, rfl⟩
    rw [← hk40] at z28
    have nk40 : ¬ k40 = 0 := by omega
    have HK28 := Lib.hid hk40
    have hP : Try.prog = PD := rfl
    rw [hP] at t3 u3 g3 z3 t4 u4 g4 z4 t24 u24 g24 z24 t28 u28 g28 z28 c14 c8 c37 mixed HLD ⊢
    have HP := Lib.hid hP.symm
    clear hP hk30 hk40
    have hAk : A.size = k30 := by rw [HK24.out]; exact hsz
    have hPk : P.size = k40 := by rw [HK28.out]; exact hPs
    clear hsz hPs
    rw [hw1] at HF HLD
    go_wp2_with fail
    obtain ⟨nb, hnb⟩ : ∃ nb, w.heap.size = nb := ⟨_, rfl⟩
    rw [hnb] at HLD ⊢
    have HSS : Hid (∀ w', Fr No w1 w' → Sem.run PD (loadCellsFrom ⟨nb, 0, none⟩ 0 k30 #[]) w' = .ok A w' ∧ w'.cell? ⟨nb, 17, none⟩ = some (.int .i64 n)) := fun w' hf => ⟨by rw [HK24.out]; exact (HLD.out w' hf).1, (HLD.out w' hf).2⟩
    clear hnb hw1
    have f5 : Fr No w1 w1.drew := Fr.drew No _
    have hS0 := HSS.out _ f5
    refine wp_region_noPanic ?_
    refine wp_region_held_drew (S := (fun w' : World => Sem.run PD (loadCellsFrom ⟨nb, 0, none⟩ 0 k30 #[]) w' = .ok A w' ∧ w'.cell? ⟨nb, 17, none⟩ = some (.int .i64 n))) (by kernel_rfl) hS0 (fun hHeld => ?_)
    refine wpAnyH_take (i := 0) (oi := { dst := some 4, op := Op.fieldAddr 28 (Operand.tmp 1) 0, type := 0, pos := "ref.go:383", after := #[], guard := none }) (v := ?v0d) rfl (by kernel_rfl) (by kernel_rfl) (by kernel_rfl) (fun _ _ _ h => h) (Or.inl ⟨by rfl, ?hy0d⟩) hHeld ?nx0d
    case hy0d => (intro w hSw; (try dsimp only at hSw); go_simp; try with_reducible rfl)
    try simp only [Act.put, List.setIfInBounds_toArray, List.set_cons_zero, List.set_cons_succ]
    refine wpAnyH_take (i := 1) (oi := { dst := some 5, op := Op.load 24 (Operand.tmp 4), type := 24, pos := "ref.go:383", after := #[{ on := 0, ground := Ground.data }], guard := none }) (v := ?v1d) rfl (by kernel_rfl) (by kernel_rfl) (by kernel_rfl) (fun _ _ _ h => h) (Or.inl ⟨by rfl, ?hy1d⟩) hHeld ?nx1d
    case hy1d => (intro w hSw; (try dsimp only at hSw); go_simp; try with_reducible rfl)
    try simp only [Act.put, List.setIfInBounds_toArray, List.set_cons_zero, List.set_cons_succ]
    refine wpAnyH_ready (rs := [2]) (by kernel_rfl) (by simp) ?_
    refine AllReadyH.cons (o := { dst := some 6, op := Op.call { callee := Callee.value (Operand.func 14), args := #[Operand.tmp 5], argTypes := #[24] }, type := 4, pos := "ref.go:383", after := #[{ on := 1, ground := Ground.data }], guard := none }) rfl (fun K hK => ?_) AllReadyH.nil
    go_simp
    go_at_call 14
    refine (at_prog HP.out (HVA.out _)).mono ?_
    rintro e x0 ⟨rfl, h0⟩
    have g0 := f5.trans h0
    have hS := HSS.out _ g0
    clear h0
    refine hK.out _ _ hS (fun hH2 => ?_)
    clear hK K hHeld
    have hHeld := hH2
    clear hH2 hS
    try simp only [Act.put, List.setIfInBounds_toArray, List.set_cons_zero, List.set_cons_succ]
    refine wpAnyH_take (i := 3) (oi := { dst := some 7, op := Op.unOp UnOp.not 4 (Operand.tmp 6), type := 4, pos := "ref.go:383", after := #[{ on := 2, ground := Ground.data }], guard := none }) (v := ?v3d) rfl (by kernel_rfl) (by kernel_rfl) (by kernel_rfl) (fun _ _ _ h => h) (Or.inl ⟨by rfl, ?hy3d⟩) hHeld ?nx3d
    case hy3d => (intro w hSw; (try dsimp only at hSw); go_simp; try with_reducible rfl)
    try simp only [Act.put, List.setIfInBounds_toArray, List.set_cons_zero, List.set_cons_succ]
    refine wpAnyH_take (i := 4) (oi := { dst := some 8, op := Op.move (Operand.tmp 7), type := 4, pos := "ref.go:383", after := #[{ on := 3, ground := Ground.data }, { on := 2, ground := Ground.chain }], guard := none }) (v := ?v4d) rfl (by kernel_rfl) (by kernel_rfl) (by kernel_rfl) (fun _ _ _ h => h) (Or.inl ⟨by rfl, ?hy4d⟩) hHeld ?nx4d
    case hy4d => (intro w hSw; (try dsimp only at hSw); go_simp; try with_reducible rfl)
    try simp only [Act.put, List.setIfInBounds_toArray, List.set_cons_zero, List.set_cons_succ]
    refine wpAnyH_take (i := 5) (oi := { dst := some 9, op := Op.fieldAddr 28 (Operand.tmp 1) 1, type := 0, pos := "ref.go:383", after := #[{ on := 4, ground := Ground.guard }], guard := some (4, false) }) (v := ?v5d) rfl (by kernel_rfl) (by kernel_rfl) (by kernel_rfl) (fun _ _ _ h => h) (Or.inl ⟨by rfl, ?hy5d⟩) hHeld ?nx5d
    case hy5d => (intro w hSw; (try dsimp only at hSw); go_simp; try with_reducible rfl)
    try simp only [Act.put, List.setIfInBounds_toArray, List.set_cons_zero, List.set_cons_succ]
    refine wpAnyH_take (i := 6) (oi := { dst := some 10, op := Op.load 3 (Operand.tmp 9), type := 3, pos := "ref.go:383", after := #[{ on := 5, ground := Ground.data }, { on := 4, ground := Ground.guard }], guard := some (4, false) }) (v := ?v6d) rfl (by kernel_rfl) (by kernel_rfl) (by kernel_rfl) (fun _ _ _ h => h) (Or.inl ⟨by rfl, ?hy6d⟩) hHeld ?nx6d
    case hy6d => (intro w hSw; (try dsimp only at hSw); go_simp; try with_reducible rfl)
    try simp only [Act.put, List.setIfInBounds_toArray, List.set_cons_zero, List.set_cons_succ]
    refine wpAnyH_take (i := 7) (oi := { dst := some 11, op := Op.binOp BinOp.lss 3 (Operand.tmp 10) (Operand.const (Value.int IntKind.i64 0)) 3, type := 4, pos := "ref.go:383", after := #[{ on := 6, ground := Ground.data }, { on := 4, ground := Ground.guard }], guard := some (4, false) }) (v := ?v7d) rfl (by kernel_rfl) (by kernel_rfl) (by kernel_rfl) (fun _ _ _ h => h) (Or.inl ⟨by rfl, ?hy7d⟩) hHeld ?nx7d
    case hy7d => (intro w hSw; (try dsimp only at hSw); go_simp; try with_reducible rfl)
    try simp only [Act.put, List.setIfInBounds_toArray, List.set_cons_zero, List.set_cons_succ]
    refine wpAnyH_take (i := 8) (oi := { dst := some 12, op := Op.pick (Operand.tmp 8) (Operand.const (Value.bool true)) (Operand.tmp 11), type := 4, pos := "ref.go:383", after := #[{ on := 4, ground := Ground.data }, { on := 7, ground := Ground.data }], guard := none }) (v := ?v8d) rfl (by kernel_rfl) (by kernel_rfl) (by kernel_rfl) (fun _ _ _ h => h) (Or.inl ⟨by rfl, ?hy8d⟩) hHeld ?nx8d
    case hy8d => (intro w hSw; (try dsimp only at hSw); go_simp; try with_reducible rfl)
    try simp only [Act.put, List.setIfInBounds_toArray, List.set_cons_zero, List.set_cons_succ]
    refine wpAnyH_take (i := 9) (oi := { dst := some 13, op := Op.move (Operand.tmp 12), type := 4, pos := "ref.go:383", after := #[{ on := 8, ground := Ground.data }, { on := 4, ground := Ground.chain }], guard := none }) (v := ?v9d) rfl (by kernel_rfl) (by kernel_rfl) (by kernel_rfl) (fun _ _ _ h => h) (Or.inl ⟨by rfl, ?hy9d⟩) hHeld ?nx9d
    case hy9d => (intro w hSw; (try dsimp only at hSw); go_simp; try with_reducible rfl)
    try simp only [Act.put, List.setIfInBounds_toArray, List.set_cons_zero, List.set_cons_succ]
    refine wpAnyH_take (i := 10) (oi := { dst := some 14, op := Op.fieldAddr 28 (Operand.tmp 1) 1, type := 0, pos := "ref.go:383", after := #[{ on := 9, ground := Ground.guard }], guard := some (9, false) }) (v := ?v10d) rfl (by kernel_rfl) (by kernel_rfl) (by kernel_rfl) (fun _ _ _ h => h) (Or.inl ⟨by rfl, ?hy10d⟩) hHeld ?nx10d
    case hy10d => (intro w hSw; (try dsimp only at hSw); go_simp; try with_reducible rfl)
    try simp only [Act.put, List.setIfInBounds_toArray, List.set_cons_zero, List.set_cons_succ]
    refine wpAnyH_take (i := 11) (oi := { dst := some 15, op := Op.load 3 (Operand.tmp 14), type := 3, pos := "ref.go:383", after := #[{ on := 10, ground := Ground.data }, { on := 9, ground := Ground.guard }], guard := some (9, false) }) (v := ?v11d) rfl (by kernel_rfl) (by kernel_rfl) (by kernel_rfl) (fun _ _ _ h => h) (Or.inl ⟨by rfl, ?hy11d⟩) hHeld ?nx11d
    case hy11d => (intro w hSw; (try dsimp only at hSw); go_simp; try with_reducible rfl)
    try simp only [Act.put, List.setIfInBounds_toArray, List.set_cons_zero, List.set_cons_succ]
    refine wpAnyH_take (i := 12) (oi := { dst := some 16, op := Op.fieldAddr 28 (Operand.tmp 1) 0, type := 0, pos := "ref.go:383", after := #[{ on := 9, ground := Ground.guard }], guard := some (9, false) }) (v := ?v12d) rfl (by kernel_rfl) (by kernel_rfl) (by kernel_rfl) (fun _ _ _ h => h) (Or.inl ⟨by rfl, ?hy12d⟩) hHeld ?nx12d
    case hy12d => (intro w hSw; (try dsimp only at hSw); go_simp; try with_reducible rfl)
    try simp only [Act.put, List.setIfInBounds_toArray, List.set_cons_zero, List.set_cons_succ]
    refine wpAnyH_take (i := 13) (oi := { dst := some 17, op := Op.load 24 (Operand.tmp 16), type := 24, pos := "ref.go:383", after := #[{ on := 12, ground := Ground.data }, { on := 9, ground := Ground.guard }], guard := some (9, false) }) (v := ?v13d) rfl (by kernel_rfl) (by kernel_rfl) (by kernel_rfl) (fun _ _ _ h => h) (Or.inl ⟨by rfl, ?hy13d⟩) hHeld ?nx13d
    case hy13d => (intro w hSw; (try dsimp only at hSw); go_simp; try with_reducible rfl)
    try simp only [Act.put, List.setIfInBounds_toArray, List.set_cons_zero, List.set_cons_succ]
    refine wpAnyH_ready (rs := [14]) (by kernel_rfl) (by simp) ?_
    refine AllReadyH.cons (o := { dst := some 18, op := Op.call { callee := Callee.value (Operand.func 8), args := #[Operand.tmp 17], argTypes := #[24] }, type := 3, pos := "ref.go:383", after := #[{ on := 13, ground := Ground.data }, { on := 9, ground := Ground.chain }, { on := 9, ground := Ground.guard }], guard := some (9, false) }) rfl (fun K hK => ?_) AllReadyH.nil
    go_simp
    go_at_call 8
    refine (at_prog HP.out (HBL.out _)).mono ?_
    rintro e x1 ⟨rfl, h1⟩
    have g1 := g0.trans h1
    have hS := HSS.out _ g1
    clear h1
    refine hK.out _ _ hS (fun hH2 => ?_)
    clear hK K hHeld
    have hHeld := hH2
    clear hH2 hS
    try simp only [Act.put, List.setIfInBounds_toArray, List.set_cons_zero, List.set_cons_succ]
    refine wpAnyH_take (i := 15) (oi := { dst := some 19, op := Op.binOp BinOp.gtr 3 (Operand.tmp 15) (Operand.tmp 18) 3, type := 4, pos := "ref.go:383", after := #[{ on := 11, ground := Ground.data }, { on := 14, ground := Ground.data }, { on := 9, ground := Ground.guard }], guard := some (9, false) }) (v := ?v15d) rfl (by kernel_rfl) (by kernel_rfl) (by kernel_rfl) (fun _ _ _ h => h) (Or.inl ⟨by rfl, ?hy15d⟩) hHeld ?nx15d
    case hy15d => (intro w hSw; (try dsimp only at hSw); go_simp; try with_reducible rfl)
    try simp only [Act.put, List.setIfInBounds_toArray, List.set_cons_zero, List.set_cons_succ]
    refine wpAnyH_take (i := 16) (oi := { dst := some 20, op := Op.pick (Operand.tmp 13) (Operand.const (Value.bool true)) (Operand.tmp 19), type := 4, pos := "ref.go:383", after := #[{ on := 9, ground := Ground.data }, { on := 15, ground := Ground.data }], guard := none }) (v := ?v16d) rfl (by kernel_rfl) (by kernel_rfl) (by kernel_rfl) (fun _ _ _ h => h) (Or.inl ⟨by rfl, ?hy16d⟩) hHeld ?nx16d
    case hy16d => (intro w hSw; (try dsimp only at hSw); go_simp; try with_reducible rfl)
    try simp only [Act.put, List.setIfInBounds_toArray, List.set_cons_zero, List.set_cons_succ]
    refine wpAnyH_done (by kernel_rfl) ?_ _
    refine NoPanic.normal ?_
    go_wp2_with fail
    go_ret
    exact ⟨rfl, HF.out.trans g1⟩
end Go.Proofs.Ytgbbgkbpafpnbaa
