/-
  CONTRACT of the generators' Prefix, over this seat's translation: what the call returns.
  Conditions: the argument is a prefix.
-/
import Derived.Test.YtnadendhboiliaaGreatGb
import Derived.Test.YtnadendhboiliaaGreatMb
import Derived.Deep.RegionHeld3
namespace Go.Proofs.YtnadendhboiliaaGreat
open Go.ChangeShapes Go.WideShapes Go.ChangeAt Go.RowKit
set_option linter.unusedVariables false

/-- What an answer of a generator of prefixes is. -/
def GenP (w : World) (e : Ending) (w' : World) : Prop := ∃ c ys k, Bytes ys ∧ validP c ys k = true ∧ e = .returned (.agg (pfx c ys k).toArray) ∧ Fr No w w'

set_option maxHeartbeats 8000000 in
set_option maxRecDepth 100000 in
theorem prefix_gen (b : Bool) (xs : List Nat) (n : Int) (hx : Bytes xs) (w : World) : Calls Tryz.prog 37 #[.agg (pfx b xs n).toArray] w (GenP w) := by
  obtain ⟨Z, hZ⟩ : ∃ Z : Array Value, noP.toArray = Z := ⟨_, rfl⟩
  obtain ⟨Y, hY⟩ : ∃ Y : Array Value, (adr false zeros).toArray = Y := ⟨_, rfl⟩
  have v40 := zero29
  have v30 := zero25
  rw [hZ] at v40
  rw [hY] at v30
  have hZs : Z.size = 18 := by rw [← hZ]; rfl
  have hYs : Y.size = 17 := by rw [← hY]; rfl
  obtain ⟨P, hP0, -, hP17, hPs, hPA, -⟩ := pfx_letter b xs n hx
  obtain ⟨A0, hA0, -, hsz0, -⟩ := adr_letter b xs hx
  have HSA : Hid (∀ w', Calls Tryz.prog 9 #[.agg A0] w' (GenB w')) := fun w' => by rw [← hA0]; exact saddr_gen b xs hx w'
  rw [hA0] at hPA
  rw [hP0]
  obtain ⟨b1, b2, hF⟩ := alloc2 w (.cells P 29) (.cells Z 29)
  obtain ⟨w1, hw1⟩ : ∃ w1, (w.alloc (.cells P 29)).alloc (.cells Z 29) = w1 := ⟨_, rfl⟩
  obtain ⟨mb, hmb⟩ : ∃ mb, w.heap.size = mb := ⟨_, rfl⟩
  rw [hw1, hmb] at b1 b2
  rw [hw1] at hF
  have hl1 : Sem.run Tryz.prog (loadCellsFrom ⟨mb, 0, none⟩ 0 17 #[]) w1 = .ok A0 w1 := load_block b1 hsz0 (adr_part hsz0 hPA)
  have HB := Lib.hid (And.intro b1 (And.intro b2 (And.intro hF (And.intro hP17 (And.intro hmb (And.intro hZs hYs))))))
  clear b1 b2 hF hP17 hPA hP0 hA0 hZ hY hx
  go_enter Tryz.func37, Tryz.ntmps37
  have t3 := Tryz.underlying3
  have u3 := Tryz.runUnderlying3
  have g3 := Tryz.isAgg3
  have z3 := Tryz.sizeOf3
  have t4 := Tryz.underlying4
  have u4 := Tryz.runUnderlying4
  have g4 := Tryz.isAgg4
  have z4 := Tryz.sizeOf4
  have t25 := Tryz.underlying25
  have u25 := Tryz.runUnderlying25
  have g25 := Tryz.isAgg25
  have z25 := Tryz.sizeOf25
  have t29 := Tryz.underlying29
  have u29 := Tryz.runUnderlying29
  have g29 := Tryz.isAgg29
  have z29 := Tryz.sizeOf29
  have c9 := Tryz.call9
  have c23 := Tryz.call23
  have c60 := Tryz.call60
  have c25 := Tryz.call25
  have c59 := Tryz.call59
  have mixed : Tryz.prog.follows .mixedOrders = true := by kernel_rfl
  obtain ⟨k30, hk30⟩ : ∃ k, k = 17 := ⟨_, rfl⟩
  rw [← hk30] at z25
  have nk30 : ¬ k30 = 0 := by omega
  have HK25 := Lib.hid hk30
  obtain ⟨k40, hk40⟩ : ∃ k, k = 18 := ⟨_, rfl⟩
  rw [← hk40] at z29
  have nk40 : ¬ k40 = 0 := by omega
  have HK29 := Lib.hid hk40
  have hP : Tryz.prog = PD := rfl
  rw [hP] at t3 u3 g3 z3 t4 u4 g4 z4 t25 u25 g25 z25 t29 u29 g29 z29 c9 c23 c60 c25 c59 mixed v30 v40 hl1 ⊢
  have HP := Lib.hid hP.symm
  clear hP hk30 hk40
  have hAk0 : A0.size = k30 := by rw [HK25.out]; exact hsz0
  have hPk : P.size = k40 := by rw [HK29.out]; exact hPs
  have hZk : Z.size = k40 := by rw [HK29.out]; exact hZs
  have hYk : Y.size = k30 := by rw [HK25.out]; exact hYs
  rw [← HK25.out] at hl1
  clear hsz0 hPs hZs hYs
  go_wp2_with (first | (go_at_call 9; refine (at_prog HP.out (HSA.out _)).mono ?_; rintro e w3 ⟨c0, ys0, hys0, rfl, hf3⟩) | (go_at_call 23; refine (at_prog HP.out (vaddr_gen c0 ys0 hys0 _)).mono ?_; rintro e w4 ⟨c, ys, hys, hyv, rfl, hf4⟩; obtain ⟨A, hA, h0A, hsz, -⟩ := adr_letter c ys hys; rw [hA]; have hAk : A.size = k30 := hsz.trans HK25.out.symm; obtain ⟨y, hst, hyb, hyf⟩ := store_all (P := PD) A.toList (heap_alloc_new w4 (.cells Y 25)) (by rw [Array.length_toList, hAk, hYk]) (by rw [← hA]; exact adr_one _ _)) | fail)
  obtain ⟨nb, hnb⟩ : ∃ nb, w4.heap.size = nb := ⟨_, rfl⟩
  have HF : Hid (Fr No w1 y ∧ y.heap[nb]? = some (.cells A 25 (0, 0))) := by
    have g := (hf3.trans hf4).trans (Fr.alloc No w4 (.cells Y 25))
    exact ⟨g.ofNew hyf fun k hk => .inr (by rw [hk]; exact (hf3.trans hf4).size), by rw [← hnb]; simpa using hyb⟩
  rw [hnb]
  obtain ⟨B, hBB⟩ : ∃ B : Nat, bitsOf c = B := ⟨(bitsOf c).toNat, by have := bitsOf_le c; omega⟩
  have hB128 : B ≤ 128 := by have := bitsOf_le c; omega
  have HBL : Hid (∀ w', Calls Tryz.prog 60 #[.agg A] w' fun e w'' => e = .returned (.int .i64 B) ∧ Fr No w' w'') := fun w' => by
    have h := bitLen_R c A h0A w'
    rw [hBB] at h
    exact h
  obtain ⟨k, hk, hmd⟩ := mod_fix n (B + 1) (by omega) (by omega)
  have HMD : Hid (∀ w', Calls Tryz.prog 25 #[.int .i64 n, .int .i64 ((B : Int) + 1)] w' fun e w'' => e = .returned (.int .i64 k) ∧ w'' = w') := hmd
  have hpo : pofB c ys k = true := by
    unfold pofB
    rw [hyv, decide_eq_true (by omega : (0 : Int) ≤ (k : Int)), decide_eq_true (by omega : (k : Int) ≤ bitsOf c)]
    rfl
  obtain ⟨Q, hQ⟩ : ∃ Q : Array Value, (pfx c (pofX c ys k) k).toArray = Q := ⟨_, rfl⟩
  have hQs : Q.size = 18 := by rw [← hQ, List.size_toArray]; exact pfx_length (pofX_bytes hys k).1
  have HPO : Hid (∀ w', Calls Tryz.prog 59 #[.agg A, .int .i64 k] w' fun e w'' => e = .returned (.tuple #[.agg Q, .bool true]) ∧ Fr No w' w'') := fun w' => by
    have h := pof_ref c ys k hys w'
    rw [hA, hpo, show pofT c ys k = pfx c (pofX c ys k) k by rw [pofT, if_pos hpo], hQ] at h
    exact h
  have hQk : Q.size = k40 := hQs.trans HK29.out.symm
  have HQ : Hid (Bytes (pofX c ys k) ∧ validP c (pofX c ys k) k = true ∧ (pfx c (pofX c ys k) k).toArray = Q ∧ Q.size = 18) := ⟨pofX_bytes hys k, pof_valid hys hpo, hQ, hQs⟩
  have HSS : Hid (∀ w', Fr No y w' → Sem.run PD (loadCellsFrom ⟨nb, 0, none⟩ 0 k30 #[]) w' = .ok A w' ∧ w'.cell? ⟨mb, 17, none⟩ = some (.int .i64 n)) := fun w' hf => by
    refine ⟨load_block (hf.keep HF.out.2) hAk (fun j v hv => by simpa using hv), ?_⟩
    rw [cell_of_row _ _ _ _ _ _ ((HF.out.1.trans hf).keep HB.out.1)]
    exact HB.out.2.2.2.1
  have hwB : IntKind.i64.wrap ((B : Int) + 1) = (B : Int) + 1 := by rw [IntKind.wrap_i64]; omega
  clear hys0 hyf hyb hf3 hf4 hyv hA h0A hsz hnb hBB hmd hpo hQ hQs hk
  have f5 : Fr No y y.drew := Fr.drew No _
  have hS0 := HSS.out _ f5
  refine wp_region_noPanic ?_
  refine wp_region_held_drew (S := (fun w' : World => Sem.run PD (loadCellsFrom ⟨nb, 0, none⟩ 0 k30 #[]) w' = .ok A w' ∧ w'.cell? ⟨mb, 17, none⟩ = some (.int .i64 n))) (by kernel_rfl) hS0 (fun hHeld => ?_)
  clear hS0
  generalize y.drew = yd at f5 hHeld ⊢
  refine wpAnyH_take (i := 0) (oi := { dst := some 11, op := Op.load 25 (Operand.tmp 3), type := 25, pos := "gen.go:77", after := #[], guard := none }) (v := ?v0x1) rfl (by kernel_rfl) (by kernel_rfl) (by kernel_rfl) (fun _ _ _ h => h) (Or.inl ⟨by rfl, ?hy0x1⟩) hHeld ?nx0x1
  case hy0x1 => (intro w hSw; (try dsimp only at hSw); go_simp; try with_reducible rfl)
  try simp only [Act.put, List.setIfInBounds_toArray, List.set_cons_zero, List.set_cons_succ]
  refine wpAnyH_take (i := 1) (oi := { dst := some 12, op := Op.fieldAddr 29 (Operand.tmp 1) 1, type := 0, pos := "gen.go:77", after := #[], guard := none }) (v := ?v1x2) rfl (by kernel_rfl) (by kernel_rfl) (by kernel_rfl) (fun _ _ _ h => h) (Or.inl ⟨by rfl, ?hy1x2⟩) hHeld ?nx1x2
  case hy1x2 => (intro w hSw; (try dsimp only at hSw); go_simp; try with_reducible rfl)
  try simp only [Act.put, List.setIfInBounds_toArray, List.set_cons_zero, List.set_cons_succ]
  refine wpAnyH_take (i := 2) (oi := { dst := some 13, op := Op.load 3 (Operand.tmp 12), type := 3, pos := "gen.go:77", after := #[{ on := 1, ground := Ground.data }], guard := none }) (v := ?v2x3) rfl (by kernel_rfl) (by kernel_rfl) (by kernel_rfl) (fun _ _ _ h => h) (Or.inl ⟨by rfl, ?hy2x3⟩) hHeld ?nx2x3
  case hy2x3 => (intro w hSw; (try dsimp only at hSw); go_simp; try with_reducible rfl)
  try simp only [Act.put, List.setIfInBounds_toArray, List.set_cons_zero, List.set_cons_succ]
  refine wpAnyH_take (i := 3) (oi := { dst := some 14, op := Op.load 25 (Operand.tmp 3), type := 25, pos := "gen.go:77", after := #[], guard := none }) (v := ?v3x4) rfl (by kernel_rfl) (by kernel_rfl) (by kernel_rfl) (fun _ _ _ h => h) (Or.inl ⟨by rfl, ?hy3x4⟩) hHeld ?nx3x4
  case hy3x4 => (intro w hSw; (try dsimp only at hSw); go_simp; try with_reducible rfl)
  try simp only [Act.put, List.setIfInBounds_toArray, List.set_cons_zero, List.set_cons_succ]
  refine wpAnyH_ready (rs := [4, 11]) (by kernel_rfl) (by simp) ?_
  refine (AllReadyH.cons (o := { dst := some 15, op := Op.call { callee := Callee.value (Operand.func 60), args := #[Operand.tmp 14], argTypes := #[25] }, type := 3, pos := "gen.go:77", after := #[{ on := 3, ground := Ground.data }], guard := none }) rfl (fun K hK => ?_) (AllReadyH.cons (o := { dst := some 4, op := Op.alloc 29, type := 0, pos := "gen.go:77", after := #[], guard := none }) rfl (fun K hK => ?_) AllReadyH.nil))
  · go_simp
    go_at_call 60
    refine (at_prog HP.out (HBL.out _)).mono ?_
    rintro e xx1 ⟨rfl, hx2⟩
    have gg3 := f5.trans hx2
    have hS := HSS.out _ gg3
    refine hK.out _ _ hS (fun hH2 => ?_)
    clear hK K hHeld
    have hHeld := hH2
    clear hH2 hS
    try simp only [Act.put, List.setIfInBounds_toArray, List.set_cons_zero, List.set_cons_succ]
    refine wpAnyH_take (i := 5) (oi := { dst := some 16, op := Op.binOp BinOp.add 3 (Operand.tmp 15) (Operand.const (Value.int IntKind.i64 1)) 3, type := 3, pos := "gen.go:77", after := #[{ on := 4, ground := Ground.data }], guard := none }) (v := ?v5x5) rfl (by kernel_rfl) (by kernel_rfl) (by kernel_rfl) (fun _ _ _ h => h) (Or.inl ⟨by rfl, ?hy5x5⟩) hHeld ?nx5x5
    case hy5x5 => (intro w hSw; (try dsimp only at hSw); go_simp; try with_reducible rfl)
    try simp only [Act.put, List.setIfInBounds_toArray, List.set_cons_zero, List.set_cons_succ]
    refine wpAnyH_ready (rs := [6, 11]) (by kernel_rfl) (by simp) ?_
    refine (AllReadyH.cons (o := { dst := some 17, op := Op.call { callee := Callee.value (Operand.func 25), args := #[Operand.tmp 13, Operand.tmp 16], argTypes := #[3, 3] }, type := 3, pos := "gen.go:77", after := #[{ on := 2, ground := Ground.data }, { on := 5, ground := Ground.data }, { on := 4, ground := Ground.chain }], guard := none }) rfl (fun K hK => ?_) (AllReadyH.cons (o := { dst := some 4, op := Op.alloc 29, type := 0, pos := "gen.go:77", after := #[], guard := none }) rfl (fun K hK => ?_) AllReadyH.nil))
    · go_simp
      go_at_call 25
      refine (at_prog HP.out (HMD.out _)).mono ?_
      rintro e xx4 ⟨rfl, hx5⟩
      replace hx5 := hx5.symm
      subst hx5
      have hS := HSS.out _ gg3
      refine hK.out _ _ hS (fun hH2 => ?_)
      clear hK K hHeld
      have hHeld := hH2
      clear hH2 hS
      try simp only [Act.put, List.setIfInBounds_toArray, List.set_cons_zero, List.set_cons_succ]
      refine wpAnyH_ready (rs := [7, 11]) (by kernel_rfl) (by simp) ?_
      refine (AllReadyH.cons (o := { dst := some 18, op := Op.call { callee := Callee.value (Operand.func 59), args := #[Operand.tmp 11, Operand.tmp 17], argTypes := #[25, 3] }, type := 59, pos := "gen.go:77", after := #[{ on := 0, ground := Ground.data }, { on := 6, ground := Ground.data }, { on := 6, ground := Ground.chain }], guard := none }) rfl (fun K hK => ?_) (AllReadyH.cons (o := { dst := some 4, op := Op.alloc 29, type := 0, pos := "gen.go:77", after := #[], guard := none }) rfl (fun K hK => ?_) AllReadyH.nil))
      · go_simp
        go_at_call 59
        refine (at_prog HP.out (HPO.out _)).mono ?_
        rintro e xx7 ⟨rfl, hx8⟩
        have gg9 := gg3.trans hx8
        have hS := HSS.out _ gg9
        refine hK.out _ _ hS (fun hH2 => ?_)
        clear hK K hHeld
        have hHeld := hH2
        clear hH2 hS
        try simp only [Act.put, List.setIfInBounds_toArray, List.set_cons_zero, List.set_cons_succ]
        refine wpAnyH_take (i := 8) (oi := { dst := some 10, op := Op.move (Operand.tmp 18), type := 59, pos := "gen.go:77", after := #[{ on := 7, ground := Ground.data }], guard := none }) (v := ?v8x6) rfl (by kernel_rfl) (by kernel_rfl) (by kernel_rfl) (fun _ _ _ h => h) (Or.inl ⟨by rfl, ?hy8x6⟩) hHeld ?nx8x6
        case hy8x6 => (intro w hSw; (try dsimp only at hSw); go_simp; try with_reducible rfl)
        try simp only [Act.put, List.setIfInBounds_toArray, List.set_cons_zero, List.set_cons_succ]
        refine wpAnyH_take (i := 9) (oi := { dst := some 19, op := Op.extract (Operand.tmp 10) 0, type := 29, pos := "gen.go:77", after := #[{ on := 8, ground := Ground.data }], guard := none }) (v := ?v9x7) rfl (by kernel_rfl) (by kernel_rfl) (by kernel_rfl) (fun _ _ _ h => h) (Or.inl ⟨by rfl, ?hy9x7⟩) hHeld ?nx9x7
        case hy9x7 => (intro w hSw; (try dsimp only at hSw); go_simp; try with_reducible rfl)
        try simp only [Act.put, List.setIfInBounds_toArray, List.set_cons_zero, List.set_cons_succ]
        refine wpAnyH_take (i := 10) (oi := { dst := some 20, op := Op.extract (Operand.tmp 10) 1, type := 4, pos := "gen.go:77", after := #[{ on := 8, ground := Ground.data }, { on := 12, ground := Ground.gcOnly Departure.lateStores }], guard := none }) (v := ?v10x8) rfl (by kernel_rfl) (by kernel_rfl) (by kernel_rfl) (fun _ _ _ h => h) (Or.inl ⟨by rfl, ?hy10x8⟩) hHeld ?nx10x8
        case hy10x8 => (intro w hSw; (try dsimp only at hSw); go_simp; try with_reducible rfl)
        try simp only [Act.put, List.setIfInBounds_toArray, List.set_cons_zero, List.set_cons_succ]
        refine wpAnyH_ready (rs := [11]) (by kernel_rfl) (by simp) ?_
        refine (AllReadyH.cons (o := { dst := some 4, op := Op.alloc 29, type := 0, pos := "gen.go:77", after := #[], guard := none }) rfl (fun K hK => ?_) AllReadyH.nil)
        go_simp
        have gg10 := gg9.trans (Fr.alloc No _ (.cells Z 29))
        have hz11 := heap_alloc_new (xx7) (.cells Z 29)
        have hS := HSS.out _ gg10
        refine hK.out _ _ hS (fun hH2 => ?_)
        clear hK K hHeld
        have hHeld := hH2
        clear hH2 hS
        try simp only [Act.put, List.setIfInBounds_toArray, List.set_cons_zero, List.set_cons_succ]
        refine wpAnyH_ready (rs := [12]) (by kernel_rfl) (by simp) ?_
        refine (AllReadyH.cons (o := { dst := none, op := Op.store 29 (Operand.tmp 4) (Operand.tmp 19), type := 0, pos := "gen.go:77", after := #[{ on := 11, ground := Ground.data }, { on := 9, ground := Ground.data }, { on := 7, ground := Ground.chain }, { on := 0, ground := Ground.phase }, { on := 1, ground := Ground.phase }, { on := 2, ground := Ground.phase }, { on := 3, ground := Ground.phase }, { on := 4, ground := Ground.phase }, { on := 5, ground := Ground.phase }, { on := 6, ground := Ground.phase }, { on := 7, ground := Ground.phase }, { on := 8, ground := Ground.phase }, { on := 9, ground := Ground.phase }, { on := 10, ground := Ground.textOnly Departure.lateStores }, { on := 11, ground := Ground.phase }], guard := none }) rfl (fun K hK => ?_) AllReadyH.nil)
        obtain ⟨yy12, sa13, sb14, sc15⟩ := store_all (P := PD) Q.toList hz11 (by rw [Array.length_toList, hQk, hZk]) (by rw [← HQ.out.2.2.1]; intro u hu; exact pfx_one _ _ _ u (by simpa using hu))
        go_simp
        have gg16 := gg10.ofNew sc15 fun k hk => .inr (by rw [hk]; exact gg9.size)
        have hS := HSS.out _ gg16
        refine hK.out _ _ hS (fun hH2 => ?_)
        clear hK K hHeld
        have hHeld := hH2
        clear hH2 hS
        try simp only [Act.put, List.setIfInBounds_toArray, List.set_cons_zero, List.set_cons_succ]
        refine wpAnyH_take (i := 13) (oi := { dst := some 5, op := Op.assign (Operand.tmp 20), type := 4, pos := "gen.go:77", after := #[{ on := 10, ground := Ground.data }, { on := 12, ground := Ground.chain }, { on := 0, ground := Ground.phase }, { on := 1, ground := Ground.phase }, { on := 2, ground := Ground.phase }, { on := 3, ground := Ground.phase }, { on := 4, ground := Ground.phase }, { on := 5, ground := Ground.phase }, { on := 6, ground := Ground.phase }, { on := 7, ground := Ground.phase }, { on := 8, ground := Ground.phase }, { on := 9, ground := Ground.phase }, { on := 10, ground := Ground.phase }, { on := 11, ground := Ground.phase }, { on := 12, ground := Ground.phase }], guard := none }) (v := ?v13x9) rfl (by kernel_rfl) (by kernel_rfl) (by kernel_rfl) (fun _ _ _ h => h) (Or.inl ⟨by rfl, ?hy13x9⟩) hHeld ?nx13x9
        case hy13x9 => (intro w hSw; (try dsimp only at hSw); go_simp; try with_reducible rfl)
        try simp only [Act.put, List.setIfInBounds_toArray, List.set_cons_zero, List.set_cons_succ]
        refine wpAnyH_done (by kernel_rfl) ?_ _
        refine NoPanic.normal ?_
        have lq := load_block (P := PD) (o := 0) sb14 (by simpa using hQk) (fun j v hv => by simpa using hv)
        obtain ⟨y9, hst9, hyb9, hyf9⟩ := store_all (P := PD) Q.toList ((HF.out.1.trans gg16).keep HB.out.2.1) (by rw [Array.length_toList, hQk, hZk]) (by rw [← HQ.out.2.2.1]; intro u hu; exact pfx_one _ _ _ u (by simpa using hu))
        go_wp2_with fail
        refine bodyPost_ret_by (results_agg rfl _ (b := mb + 1) (k := 18) (cs := Q) (Tryz.isAgg29 _) (Tryz.sizeOf29 _) rfl (load_block hyb9 HQ.out.2.2.2 (fun j v hv => by simpa using hv))) rfl ?_
        exact ⟨c, _, _, HQ.out.1, HQ.out.2.1, by rw [HQ.out.2.2.1], ((HB.out.2.2.1.trans HF.out.1).trans gg16).ofNew hyf9 fun k hk => .inr (by rw [hk, HB.out.2.2.2.2.1]; omega)⟩
      · go_simp
        have gg17 := gg3.trans (Fr.alloc No _ (.cells Z 29))
        have hz18 := heap_alloc_new (xx1) (.cells Z 29)
        have hS := HSS.out _ gg17
        refine hK.out _ _ hS (fun hH2 => ?_)
        clear hK K hHeld
        have hHeld := hH2
        clear hH2 hS
        try simp only [Act.put, List.setIfInBounds_toArray, List.set_cons_zero, List.set_cons_succ]
        refine wpAnyH_ready (rs := [7]) (by kernel_rfl) (by simp) ?_
        refine (AllReadyH.cons (o := { dst := some 18, op := Op.call { callee := Callee.value (Operand.func 59), args := #[Operand.tmp 11, Operand.tmp 17], argTypes := #[25, 3] }, type := 59, pos := "gen.go:77", after := #[{ on := 0, ground := Ground.data }, { on := 6, ground := Ground.data }, { on := 6, ground := Ground.chain }], guard := none }) rfl (fun K hK => ?_) AllReadyH.nil)
        go_simp
        go_at_call 59
        refine (at_prog HP.out (HPO.out _)).mono ?_
        rintro e xx19 ⟨rfl, hx20⟩
        have gg21 := gg17.trans hx20
        have hS := HSS.out _ gg21
        have hz22 := hx20.keep hz18
        refine hK.out _ _ hS (fun hH2 => ?_)
        clear hK K hHeld
        have hHeld := hH2
        clear hH2 hS
        try simp only [Act.put, List.setIfInBounds_toArray, List.set_cons_zero, List.set_cons_succ]
        refine wpAnyH_take (i := 8) (oi := { dst := some 10, op := Op.move (Operand.tmp 18), type := 59, pos := "gen.go:77", after := #[{ on := 7, ground := Ground.data }], guard := none }) (v := ?v8x10) rfl (by kernel_rfl) (by kernel_rfl) (by kernel_rfl) (fun _ _ _ h => h) (Or.inl ⟨by rfl, ?hy8x10⟩) hHeld ?nx8x10
        case hy8x10 => (intro w hSw; (try dsimp only at hSw); go_simp; try with_reducible rfl)
        try simp only [Act.put, List.setIfInBounds_toArray, List.set_cons_zero, List.set_cons_succ]
        refine wpAnyH_take (i := 9) (oi := { dst := some 19, op := Op.extract (Operand.tmp 10) 0, type := 29, pos := "gen.go:77", after := #[{ on := 8, ground := Ground.data }], guard := none }) (v := ?v9x11) rfl (by kernel_rfl) (by kernel_rfl) (by kernel_rfl) (fun _ _ _ h => h) (Or.inl ⟨by rfl, ?hy9x11⟩) hHeld ?nx9x11
        case hy9x11 => (intro w hSw; (try dsimp only at hSw); go_simp; try with_reducible rfl)
        try simp only [Act.put, List.setIfInBounds_toArray, List.set_cons_zero, List.set_cons_succ]
        refine wpAnyH_take (i := 10) (oi := { dst := some 20, op := Op.extract (Operand.tmp 10) 1, type := 4, pos := "gen.go:77", after := #[{ on := 8, ground := Ground.data }, { on := 12, ground := Ground.gcOnly Departure.lateStores }], guard := none }) (v := ?v10x12) rfl (by kernel_rfl) (by kernel_rfl) (by kernel_rfl) (fun _ _ _ h => h) (Or.inl ⟨by rfl, ?hy10x12⟩) hHeld ?nx10x12
        case hy10x12 => (intro w hSw; (try dsimp only at hSw); go_simp; try with_reducible rfl)
        try simp only [Act.put, List.setIfInBounds_toArray, List.set_cons_zero, List.set_cons_succ]
        refine wpAnyH_ready (rs := [12]) (by kernel_rfl) (by simp) ?_
        refine (AllReadyH.cons (o := { dst := none, op := Op.store 29 (Operand.tmp 4) (Operand.tmp 19), type := 0, pos := "gen.go:77", after := #[{ on := 11, ground := Ground.data }, { on := 9, ground := Ground.data }, { on := 7, ground := Ground.chain }, { on := 0, ground := Ground.phase }, { on := 1, ground := Ground.phase }, { on := 2, ground := Ground.phase }, { on := 3, ground := Ground.phase }, { on := 4, ground := Ground.phase }, { on := 5, ground := Ground.phase }, { on := 6, ground := Ground.phase }, { on := 7, ground := Ground.phase }, { on := 8, ground := Ground.phase }, { on := 9, ground := Ground.phase }, { on := 10, ground := Ground.textOnly Departure.lateStores }, { on := 11, ground := Ground.phase }], guard := none }) rfl (fun K hK => ?_) AllReadyH.nil)
        obtain ⟨yy23, sa24, sb25, sc26⟩ := store_all (P := PD) Q.toList hz22 (by rw [Array.length_toList, hQk, hZk]) (by rw [← HQ.out.2.2.1]; intro u hu; exact pfx_one _ _ _ u (by simpa using hu))
        go_simp
        have gg27 := gg21.ofNew sc26 fun k hk => .inr (by rw [hk]; exact gg3.size)
        have hS := HSS.out _ gg27
        refine hK.out _ _ hS (fun hH2 => ?_)
        clear hK K hHeld
        have hHeld := hH2
        clear hH2 hS
        try simp only [Act.put, List.setIfInBounds_toArray, List.set_cons_zero, List.set_cons_succ]
        refine wpAnyH_take (i := 13) (oi := { dst := some 5, op := Op.assign (Operand.tmp 20), type := 4, pos := "gen.go:77", after := #[{ on := 10, ground := Ground.data }, { on := 12, ground := Ground.chain }, { on := 0, ground := Ground.phase }, { on := 1, ground := Ground.phase }, { on := 2, ground := Ground.phase }, { on := 3, ground := Ground.phase }, { on := 4, ground := Ground.phase }, { on := 5, ground := Ground.phase }, { on := 6, ground := Ground.phase }, { on := 7, ground := Ground.phase }, { on := 8, ground := Ground.phase }, { on := 9, ground := Ground.phase }, { on := 10, ground := Ground.phase }, { on := 11, ground := Ground.phase }, { on := 12, ground := Ground.phase }], guard := none }) (v := ?v13x13) rfl (by kernel_rfl) (by kernel_rfl) (by kernel_rfl) (fun _ _ _ h => h) (Or.inl ⟨by rfl, ?hy13x13⟩) hHeld ?nx13x13
        case hy13x13 => (intro w hSw; (try dsimp only at hSw); go_simp; try with_reducible rfl)
        try simp only [Act.put, List.setIfInBounds_toArray, List.set_cons_zero, List.set_cons_succ]
        refine wpAnyH_done (by kernel_rfl) ?_ _
        refine NoPanic.normal ?_
        have lq := load_block (P := PD) (o := 0) sb25 (by simpa using hQk) (fun j v hv => by simpa using hv)
        obtain ⟨y9, hst9, hyb9, hyf9⟩ := store_all (P := PD) Q.toList ((HF.out.1.trans gg27).keep HB.out.2.1) (by rw [Array.length_toList, hQk, hZk]) (by rw [← HQ.out.2.2.1]; intro u hu; exact pfx_one _ _ _ u (by simpa using hu))
        go_wp2_with fail
        refine bodyPost_ret_by (results_agg rfl _ (b := mb + 1) (k := 18) (cs := Q) (Tryz.isAgg29 _) (Tryz.sizeOf29 _) rfl (load_block hyb9 HQ.out.2.2.2 (fun j v hv => by simpa using hv))) rfl ?_
        exact ⟨c, _, _, HQ.out.1, HQ.out.2.1, by rw [HQ.out.2.2.1], ((HB.out.2.2.1.trans HF.out.1).trans gg27).ofNew hyf9 fun k hk => .inr (by rw [hk, HB.out.2.2.2.2.1]; omega)⟩
    · go_simp
      have gg28 := gg3.trans (Fr.alloc No _ (.cells Z 29))
      have hz29 := heap_alloc_new (xx1) (.cells Z 29)
      have hS := HSS.out _ gg28
      refine hK.out _ _ hS (fun hH2 => ?_)
      clear hK K hHeld
      have hHeld := hH2
      clear hH2 hS
      try simp only [Act.put, List.setIfInBounds_toArray, List.set_cons_zero, List.set_cons_succ]
      refine wpAnyH_ready (rs := [6]) (by kernel_rfl) (by simp) ?_
      refine (AllReadyH.cons (o := { dst := some 17, op := Op.call { callee := Callee.value (Operand.func 25), args := #[Operand.tmp 13, Operand.tmp 16], argTypes := #[3, 3] }, type := 3, pos := "gen.go:77", after := #[{ on := 2, ground := Ground.data }, { on := 5, ground := Ground.data }, { on := 4, ground := Ground.chain }], guard := none }) rfl (fun K hK => ?_) AllReadyH.nil)
      go_simp
      go_at_call 25
      refine (at_prog HP.out (HMD.out _)).mono ?_
      rintro e xx30 ⟨rfl, hx31⟩
      replace hx31 := hx31.symm
      subst hx31
      have hS := HSS.out _ gg28
      refine hK.out _ _ hS (fun hH2 => ?_)
      clear hK K hHeld
      have hHeld := hH2
      clear hH2 hS
      try simp only [Act.put, List.setIfInBounds_toArray, List.set_cons_zero, List.set_cons_succ]
      refine wpAnyH_ready (rs := [7]) (by kernel_rfl) (by simp) ?_
      refine (AllReadyH.cons (o := { dst := some 18, op := Op.call { callee := Callee.value (Operand.func 59), args := #[Operand.tmp 11, Operand.tmp 17], argTypes := #[25, 3] }, type := 59, pos := "gen.go:77", after := #[{ on := 0, ground := Ground.data }, { on := 6, ground := Ground.data }, { on := 6, ground := Ground.chain }], guard := none }) rfl (fun K hK => ?_) AllReadyH.nil)
      go_simp
      go_at_call 59
      refine (at_prog HP.out (HPO.out _)).mono ?_
      rintro e xx33 ⟨rfl, hx34⟩
      have gg35 := gg28.trans hx34
      have hS := HSS.out _ gg35
      have hz36 := hx34.keep hz29
      refine hK.out _ _ hS (fun hH2 => ?_)
      clear hK K hHeld
      have hHeld := hH2
      clear hH2 hS
      try simp only [Act.put, List.setIfInBounds_toArray, List.set_cons_zero, List.set_cons_succ]
      refine wpAnyH_take (i := 8) (oi := { dst := some 10, op := Op.move (Operand.tmp 18), type := 59, pos := "gen.go:77", after := #[{ on := 7, ground := Ground.data }], guard := none }) (v := ?v8x14) rfl (by kernel_rfl) (by kernel_rfl) (by kernel_rfl) (fun _ _ _ h => h) (Or.inl ⟨by rfl, ?hy8x14⟩) hHeld ?nx8x14
      case hy8x14 => (intro w hSw; (try dsimp only at hSw); go_simp; try with_reducible rfl)
      try simp only [Act.put, List.setIfInBounds_toArray, List.set_cons_zero, List.set_cons_succ]
      refine wpAnyH_take (i := 9) (oi := { dst := some 19, op := Op.extract (Operand.tmp 10) 0, type := 29, pos := "gen.go:77", after := #[{ on := 8, ground := Ground.data }], guard := none }) (v := ?v9x15) rfl (by kernel_rfl) (by kernel_rfl) (by kernel_rfl) (fun _ _ _ h => h) (Or.inl ⟨by rfl, ?hy9x15⟩) hHeld ?nx9x15
      case hy9x15 => (intro w hSw; (try dsimp only at hSw); go_simp; try with_reducible rfl)
      try simp only [Act.put, List.setIfInBounds_toArray, List.set_cons_zero, List.set_cons_succ]
      refine wpAnyH_take (i := 10) (oi := { dst := some 20, op := Op.extract (Operand.tmp 10) 1, type := 4, pos := "gen.go:77", after := #[{ on := 8, ground := Ground.data }, { on := 12, ground := Ground.gcOnly Departure.lateStores }], guard := none }) (v := ?v10x16) rfl (by kernel_rfl) (by kernel_rfl) (by kernel_rfl) (fun _ _ _ h => h) (Or.inl ⟨by rfl, ?hy10x16⟩) hHeld ?nx10x16
      case hy10x16 => (intro w hSw; (try dsimp only at hSw); go_simp; try with_reducible rfl)
      try simp only [Act.put, List.setIfInBounds_toArray, List.set_cons_zero, List.set_cons_succ]
      refine wpAnyH_ready (rs := [12]) (by kernel_rfl) (by simp) ?_
      refine (AllReadyH.cons (o := { dst := none, op := Op.store 29 (Operand.tmp 4) (Operand.tmp 19), type := 0, pos := "gen.go:77", after := #[{ on := 11, ground := Ground.data }, { on := 9, ground := Ground.data }, { on := 7, ground := Ground.chain }, { on := 0, ground := Ground.phase }, { on := 1, ground := Ground.phase }, { on := 2, ground := Ground.phase }, { on := 3, ground := Ground.phase }, { on := 4, ground := Ground.phase }, { on := 5, ground := Ground.phase }, { on := 6, ground := Ground.phase }, { on := 7, ground := Ground.phase }, { on := 8, ground := Ground.phase }, { on := 9, ground := Ground.phase }, { on := 10, ground := Ground.textOnly Departure.lateStores }, { on := 11, ground := Ground.phase }], guard := none }) rfl (fun K hK => ?_) AllReadyH.nil)
      obtain ⟨yy37, sa38, sb39, sc40⟩ := store_all (P := PD) Q.toList hz36 (by rw [Array.length_toList, hQk, hZk]) (by rw [← HQ.out.2.2.1]; intro u hu; exact pfx_one _ _ _ u (by simpa using hu))
      go_simp
      have gg41 := gg35.ofNew sc40 fun k hk => .inr (by rw [hk]; exact gg3.size)
      have hS := HSS.out _ gg41
      refine hK.out _ _ hS (fun hH2 => ?_)
      clear hK K hHeld
      have hHeld := hH2
      clear hH2 hS
      try simp only [Act.put, List.setIfInBounds_toArray, List.set_cons_zero, List.set_cons_succ]
      refine wpAnyH_take (i := 13) (oi := { dst := some 5, op := Op.assign (Operand.tmp 20), type := 4, pos := "gen.go:77", after := #[{ on := 10, ground := Ground.data }, { on := 12, ground := Ground.chain }, { on := 0, ground := Ground.phase }, { on := 1, ground := Ground.phase }, { on := 2, ground := Ground.phase }, { on := 3, ground := Ground.phase }, { on := 4, ground := Ground.phase }, { on := 5, ground := Ground.phase }, { on := 6, ground := Ground.phase }, { on := 7, ground := Ground.phase }, { on := 8, ground := Ground.phase }, { on := 9, ground := Ground.phase }, { on := 10, ground := Ground.phase }, { on := 11, ground := Ground.phase }, { on := 12, ground := Ground.phase }], guard := none }) (v := ?v13x17) rfl (by kernel_rfl) (by kernel_rfl) (by kernel_rfl) (fun _ _ _ h => h) (Or.inl ⟨by rfl, ?hy13x17⟩) hHeld ?nx13x17
      case hy13x17 => (intro w hSw; (try dsimp only at hSw); go_simp; try with_reducible rfl)
      try simp only [Act.put, List.setIfInBounds_toArray, List.set_cons_zero, List.set_cons_succ]
      refine wpAnyH_done (by kernel_rfl) ?_ _
      refine NoPanic.normal ?_
      have lq := load_block (P := PD) (o := 0) sb39 (by simpa using hQk) (fun j v hv => by simpa using hv)
      obtain ⟨y9, hst9, hyb9, hyf9⟩ := store_all (P := PD) Q.toList ((HF.out.1.trans gg41).keep HB.out.2.1) (by rw [Array.length_toList, hQk, hZk]) (by rw [← HQ.out.2.2.1]; intro u hu; exact pfx_one _ _ _ u (by simpa using hu))
      go_wp2_with fail
      refine bodyPost_ret_by (results_agg rfl _ (b := mb + 1) (k := 18) (cs := Q) (Tryz.isAgg29 _) (Tryz.sizeOf29 _) rfl (load_block hyb9 HQ.out.2.2.2 (fun j v hv => by simpa using hv))) rfl ?_
      exact ⟨c, _, _, HQ.out.1, HQ.out.2.1, by rw [HQ.out.2.2.1], ((HB.out.2.2.1.trans HF.out.1).trans gg41).ofNew hyf9 fun k hk => .inr (by rw [hk, HB.out.2.2.2.2.1]; omega)⟩
  · go_simp
    have gg42 := f5.trans (Fr.alloc No _ (.cells Z 29))
    have hz43 := heap_alloc_new (yd) (.cells Z 29)
    have hS := HSS.out _ gg42
    refine hK.out _ _ hS (fun hH2 => ?_)
    clear hK K hHeld
    have hHeld := hH2
    clear hH2 hS
    try simp only [Act.put, List.setIfInBounds_toArray, List.set_cons_zero, List.set_cons_succ]
    refine wpAnyH_ready (rs := [4]) (by kernel_rfl) (by simp) ?_
    refine (AllReadyH.cons (o := { dst := some 15, op := Op.call { callee := Callee.value (Operand.func 60), args := #[Operand.tmp 14], argTypes := #[25] }, type := 3, pos := "gen.go:77", after := #[{ on := 3, ground := Ground.data }], guard := none }) rfl (fun K hK => ?_) AllReadyH.nil)
    go_simp
    go_at_call 60
    refine (at_prog HP.out (HBL.out _)).mono ?_
    rintro e xx44 ⟨rfl, hx45⟩
    have gg46 := gg42.trans hx45
    have hS := HSS.out _ gg46
    have hz47 := hx45.keep hz43
    refine hK.out _ _ hS (fun hH2 => ?_)
    clear hK K hHeld
    have hHeld := hH2
    clear hH2 hS
    try simp only [Act.put, List.setIfInBounds_toArray, List.set_cons_zero, List.set_cons_succ]
    refine wpAnyH_take (i := 5) (oi := { dst := some 16, op := Op.binOp BinOp.add 3 (Operand.tmp 15) (Operand.const (Value.int IntKind.i64 1)) 3, type := 3, pos := "gen.go:77", after := #[{ on := 4, ground := Ground.data }], guard := none }) (v := ?v5x18) rfl (by kernel_rfl) (by kernel_rfl) (by kernel_rfl) (fun _ _ _ h => h) (Or.inl ⟨by rfl, ?hy5x18⟩) hHeld ?nx5x18
    case hy5x18 => (intro w hSw; (try dsimp only at hSw); go_simp; try with_reducible rfl)
    try simp only [Act.put, List.setIfInBounds_toArray, List.set_cons_zero, List.set_cons_succ]
    refine wpAnyH_ready (rs := [6]) (by kernel_rfl) (by simp) ?_
    refine (AllReadyH.cons (o := { dst := some 17, op := Op.call { callee := Callee.value (Operand.func 25), args := #[Operand.tmp 13, Operand.tmp 16], argTypes := #[3, 3] }, type := 3, pos := "gen.go:77", after := #[{ on := 2, ground := Ground.data }, { on := 5, ground := Ground.data }, { on := 4, ground := Ground.chain }], guard := none }) rfl (fun K hK => ?_) AllReadyH.nil)
    go_simp
    go_at_call 25
    refine (at_prog HP.out (HMD.out _)).mono ?_
    rintro e xx48 ⟨rfl, hx49⟩
    replace hx49 := hx49.symm
    subst hx49
    have hS := HSS.out _ gg46
    refine hK.out _ _ hS (fun hH2 => ?_)
    clear hK K hHeld
    have hHeld := hH2
    clear hH2 hS
    try simp only [Act.put, List.setIfInBounds_toArray, List.set_cons_zero, List.set_cons_succ]
    refine wpAnyH_ready (rs := [7]) (by kernel_rfl) (by simp) ?_
    refine (AllReadyH.cons (o := { dst := some 18, op := Op.call { callee := Callee.value (Operand.func 59), args := #[Operand.tmp 11, Operand.tmp 17], argTypes := #[25, 3] }, type := 59, pos := "gen.go:77", after := #[{ on := 0, ground := Ground.data }, { on := 6, ground := Ground.data }, { on := 6, ground := Ground.chain }], guard := none }) rfl (fun K hK => ?_) AllReadyH.nil)
    go_simp
    go_at_call 59
    refine (at_prog HP.out (HPO.out _)).mono ?_
    rintro e xx51 ⟨rfl, hx52⟩
    have gg53 := gg46.trans hx52
    have hS := HSS.out _ gg53
    have hz54 := hx52.keep hz47
    refine hK.out _ _ hS (fun hH2 => ?_)
    clear hK K hHeld
    have hHeld := hH2
    clear hH2 hS
    try simp only [Act.put, List.setIfInBounds_toArray, List.set_cons_zero, List.set_cons_succ]
    refine wpAnyH_take (i := 8) (oi := { dst := some 10, op := Op.move (Operand.tmp 18), type := 59, pos := "gen.go:77", after := #[{ on := 7, ground := Ground.data }], guard := none }) (v := ?v8x19) rfl (by kernel_rfl) (by kernel_rfl) (by kernel_rfl) (fun _ _ _ h => h) (Or.inl ⟨by rfl, ?hy8x19⟩) hHeld ?nx8x19
    case hy8x19 => (intro w hSw; (try dsimp only at hSw); go_simp; try with_reducible rfl)
    try simp only [Act.put, List.setIfInBounds_toArray, List.set_cons_zero, List.set_cons_succ]
    refine wpAnyH_take (i := 9) (oi := { dst := some 19, op := Op.extract (Operand.tmp 10) 0, type := 29, pos := "gen.go:77", after := #[{ on := 8, ground := Ground.data }], guard := none }) (v := ?v9x20) rfl (by kernel_rfl) (by kernel_rfl) (by kernel_rfl) (fun _ _ _ h => h) (Or.inl ⟨by rfl, ?hy9x20⟩) hHeld ?nx9x20
    case hy9x20 => (intro w hSw; (try dsimp only at hSw); go_simp; try with_reducible rfl)
    try simp only [Act.put, List.setIfInBounds_toArray, List.set_cons_zero, List.set_cons_succ]
    refine wpAnyH_take (i := 10) (oi := { dst := some 20, op := Op.extract (Operand.tmp 10) 1, type := 4, pos := "gen.go:77", after := #[{ on := 8, ground := Ground.data }, { on := 12, ground := Ground.gcOnly Departure.lateStores }], guard := none }) (v := ?v10x21) rfl (by kernel_rfl) (by kernel_rfl) (by kernel_rfl) (fun _ _ _ h => h) (Or.inl ⟨by rfl, ?hy10x21⟩) hHeld ?nx10x21
    case hy10x21 => (intro w hSw; (try dsimp only at hSw); go_simp; try with_reducible rfl)
    try simp only [Act.put, List.setIfInBounds_toArray, List.set_cons_zero, List.set_cons_succ]
    refine wpAnyH_ready (rs := [12]) (by kernel_rfl) (by simp) ?_
    refine (AllReadyH.cons (o := { dst := none, op := Op.store 29 (Operand.tmp 4) (Operand.tmp 19), type := 0, pos := "gen.go:77", after := #[{ on := 11, ground := Ground.data }, { on := 9, ground := Ground.data }, { on := 7, ground := Ground.chain }, { on := 0, ground := Ground.phase }, { on := 1, ground := Ground.phase }, { on := 2, ground := Ground.phase }, { on := 3, ground := Ground.phase }, { on := 4, ground := Ground.phase }, { on := 5, ground := Ground.phase }, { on := 6, ground := Ground.phase }, { on := 7, ground := Ground.phase }, { on := 8, ground := Ground.phase }, { on := 9, ground := Ground.phase }, { on := 10, ground := Ground.textOnly Departure.lateStores }, { on := 11, ground := Ground.phase }], guard := none }) rfl (fun K hK => ?_) AllReadyH.nil)
    obtain ⟨yy55, sa56, sb57, sc58⟩ := store_all (P := PD) Q.toList hz54 (by rw [Array.length_toList, hQk, hZk]) (by rw [← HQ.out.2.2.1]; intro u hu; exact pfx_one _ _ _ u (by simpa using hu))
    go_simp
    have gg59 := gg53.ofNew sc58 fun k hk => .inr (by rw [hk]; exact f5.size)
    have hS := HSS.out _ gg59
    refine hK.out _ _ hS (fun hH2 => ?_)
    clear hK K hHeld
    have hHeld := hH2
    clear hH2 hS
    try simp only [Act.put, List.setIfInBounds_toArray, List.set_cons_zero, List.set_cons_succ]
    refine wpAnyH_take (i := 13) (oi := { dst := some 5, op := Op.assign (Operand.tmp 20), type := 4, pos := "gen.go:77", after := #[{ on := 10, ground := Ground.data }, { on := 12, ground := Ground.chain }, { on := 0, ground := Ground.phase }, { on := 1, ground := Ground.phase }, { on := 2, ground := Ground.phase }, { on := 3, ground := Ground.phase }, { on := 4, ground := Ground.phase }, { on := 5, ground := Ground.phase }, { on := 6, ground := Ground.phase }, { on := 7, ground := Ground.phase }, { on := 8, ground := Ground.phase }, { on := 9, ground := Ground.phase }, { on := 10, ground := Ground.phase }, { on := 11, ground := Ground.phase }, { on := 12, ground := Ground.phase }], guard := none }) (v := ?v13x22) rfl (by kernel_rfl) (by kernel_rfl) (by kernel_rfl) (fun _ _ _ h => h) (Or.inl ⟨by rfl, ?hy13x22⟩) hHeld ?nx13x22
    case hy13x22 => (intro w hSw; (try dsimp only at hSw); go_simp; try with_reducible rfl)
    try simp only [Act.put, List.setIfInBounds_toArray, List.set_cons_zero, List.set_cons_succ]
    refine wpAnyH_done (by kernel_rfl) ?_ _
    refine NoPanic.normal ?_
    have lq := load_block (P := PD) (o := 0) sb57 (by simpa using hQk) (fun j v hv => by simpa using hv)
    obtain ⟨y9, hst9, hyb9, hyf9⟩ := store_all (P := PD) Q.toList ((HF.out.1.trans gg59).keep HB.out.2.1) (by rw [Array.length_toList, hQk, hZk]) (by rw [← HQ.out.2.2.1]; intro u hu; exact pfx_one _ _ _ u (by simpa using hu))
    go_wp2_with fail
    refine bodyPost_ret_by (results_agg rfl _ (b := mb + 1) (k := 18) (cs := Q) (Tryz.isAgg29 _) (Tryz.sizeOf29 _) rfl (load_block hyb9 HQ.out.2.2.2 (fun j v hv => by simpa using hv))) rfl ?_
    exact ⟨c, _, _, HQ.out.1, HQ.out.2.1, by rw [HQ.out.2.2.1], ((HB.out.2.2.1.trans HF.out.1).trans gg59).ofNew hyf9 fun k hk => .inr (by rw [hk, HB.out.2.2.2.2.1]; omega)⟩
end Go.Proofs.YtnadendhboiliaaGreat
