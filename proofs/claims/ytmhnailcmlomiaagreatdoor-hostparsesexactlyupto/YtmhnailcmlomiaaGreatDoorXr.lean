/-
  THE WALK OF HostRoundTrip, over this seat's translation: the call returns true.
  Conditions: the argument is a target; the package variables are as Gl says.
-/
import Derived.Test.YtmhnailcmlomiaaGreatDoorPt
import Derived.Test.YtmhnailcmlomiaaGreatDoorGt
import Derived.Deep.DeepCutAuto
import Derived.Deep.CutBlock
namespace Go.Proofs.YtmhnailcmlomiaaGreatDoor
open Go.ChangeShapes Go.WideShapes Go.ChangeAt Go.RowKit
set_option linter.unusedVariables false

theorem tgt_size {n : ByteArray} {b : Bool} {xs : List Nat} {p : Int} (hx : Bytes xs) : (tgt n b xs p).toArray.size = 19 := by rw [List.size_toArray]; exact tgt_length _ _ _ _ hx.1
theorem tgt_ones (n : ByteArray) (b : Bool) (xs : List Nat) (p : Int) : ∀ u ∈ (tgt n b xs p).toArray.toList, u.oneCell' = true := by intro u hu; exact tgt_one _ _ _ _ u (by simpa using hu)
theorem tgt_same (nl : List UInt8) (b : Bool) (xs : List Nat) (p : Int) (hx : Bytes xs) (w : World) : Sem.run Tryz.prog (Op.equalIn 10000 32 (.agg (tgt (bs nl) b xs p).toArray) (.agg (tgt (bs nl) b xs p).toArray)) w = .ok true w := by
  rw [tgt_eq nl nl p p hx hx w, decide_eq_true ⟨rfl, ⟨rfl, rfl⟩, rfl⟩]
theorem fT_len {nl : List UInt8} {b : Bool} {xs : List Nat} {p : Int} (hx : Bytes xs) : (fT nl b xs p).length ≤ 100000 := by
  cases hv : vT nl b xs p with
  | false => rw [fT, if_neg (by rw [hv]; simp)]; simp
  | true =>
    obtain ⟨hp1, hp2, hl⟩ := vT_parts hv hx
    have := decN_len p.toNat
    rw [fT, if_pos hv, List.length_append, List.length_cons, oct8_length]
    omega
/-- What the notation of a target is read as. -/
theorem pt_fmt (nl : List UInt8) (b : Bool) (xs : List Nat) (p : Int) (hx : Bytes xs) : ptB (fT nl b xs p) = vT nl b xs p ∧ (ptT (fT nl b xs p)).toArray.size = 19 ∧ (∀ u ∈ (ptT (fT nl b xs p)).toArray.toList, u.oneCell' = true) ∧ (vT nl b xs p = true → (ptT (fT nl b xs p)).toArray = (tgt (bs nl) b xs p).toArray) := by
  cases hv : vT nl b xs p with
  | true =>
    obtain ⟨h1, h2⟩ := pt_round hx hv
    rw [h1, h2]
    exact ⟨rfl, tgt_size hx, tgt_ones _ _ _ _, fun _ => rfl⟩
  | false =>
    have h1 : fT nl b xs p = [] := by rw [fT, if_neg (by rw [hv]; simp)]
    rw [h1]
    exact ⟨rfl, rfl, tgt_ones ⟨#[]⟩ false zeros 0, fun h => by cases h⟩

set_option maxHeartbeats 32000000 in
set_option maxRecDepth 100000 in
theorem round_law (nl : List UInt8) (b : Bool) (xs : List Nat) (p : Int) (v : Int) (hx : Bytes xs) (w : World) (hG : Gl w) :
    Calls Tryz.prog 5 #[.agg (tgt (bs nl) b xs p).toArray, .int .i64 v] w fun e w' => e = .returned (.bool true) ∧ Fr No w w' := by
  obtain ⟨Z, hZ⟩ : ∃ Z : Array Value, noT.toArray = Z := ⟨_, rfl⟩
  have v62 := zero32
  rw [hZ] at v62
  have hZs : Z.size = 19 := by rw [← hZ]; rfl
  obtain ⟨k1, k2, k3, k4⟩ := pt_fmt nl b xs p hx
  have hfl := fT_len (nl := nl) (b := b) (p := p) hx
  have V1 : Hid (∀ w', Calls Tryz.prog 12 #[.agg (tgt (bs nl) b xs p).toArray] w' fun e w'' => e = .returned (.bool (vT nl b xs p)) ∧ Fr No w' w'') := fun w' => valid_t nl b xs p hx w'
  have V2 : Hid (∀ w', Calls Tryz.prog 13 #[.agg (tgt (bs nl) b xs p).toArray] w' fun e w'' => e = .returned (.bool (vT nl b xs p)) ∧ Fr No w' w'') := fun w' => valid_tref nl b xs p hx w'
  have A1 : Hid (∀ w', Gl w' → Calls Tryz.prog 14 #[.agg (tgt (bs nl) b xs p).toArray] w' fun e w'' => e = .returned (.string (bs (fT nl b xs p))) ∧ Fr No w' w'') := fun w' h => format_t nl b xs p hx w' h
  have A2 : Hid (∀ w', Calls Tryz.prog 15 #[.agg (tgt (bs nl) b xs p).toArray] w' fun e w'' => e = .returned (.string (bs (fT nl b xs p))) ∧ Fr No w' w'') := fun w' => format_tref nl b xs p hx w'
  have S1 : Hid (∀ w', Gl w' → Calls Tryz.prog 17 #[.string (bs (fT nl b xs p))] w' fun e w'' => e = .returned (.tuple #[.agg (ptT (fT nl b xs p)).toArray, .bool (vT nl b xs p)]) ∧ Fr No w' w'') := fun w' h => by
    have h1 := ptarget_any (fT nl b xs p) w' h.g (by omega)
    rw [k1] at h1
    exact h1
  have G1 : Hid (∀ w', Calls Tryz.prog 16 #[.int .i64 v] w' (GenT w')) := fun w' => target_gen v w'
  have hPs := tgt_size (n := bs nl) (b := b) (p := p) hx
  have hPe := tgt_same nl b xs p hx
  generalize (ptT (fT nl b xs p)).toArray = T at S1 k2 k3 k4
  generalize bs (fT nl b xs p) = fp at A1 A2 S1
  generalize vT nl b xs p = ub at V1 V2 S1 k4
  generalize (tgt (bs nl) b xs p).toArray = P at V1 V2 A1 A2 hPs hPe k4 ⊢
  have hb1 := heap_alloc_new w (.cells P 32)
  have hF := Fr.alloc No w (.cells P 32)
  obtain ⟨w1, hw1⟩ : ∃ w1, w.alloc (.cells P 32) = w1 := ⟨_, rfl⟩
  obtain ⟨nb, hnb⟩ : ∃ nb, w.heap.size = nb := ⟨_, rfl⟩
  rw [hw1, hnb] at hb1
  rw [hw1] at hF
  have HB := Lib.hid (And.intro hb1 (And.intro hF (And.intro hG (And.intro k3 k4))))
  have q62 := Tryz.eqGuardType32
  have e1 : (!(fp.toList == fp.toList)) = false := by simp
  have e1' : (fp.toList == fp.toList) = true := by simp
  have e2 : (ub != ub) = false := by simp
  have e3 : (ub == ub) = true := by simp
  clear hb1 hF hG k1 k3 k4 hfl hZ hx
  go_enter Tryz.func5, Tryz.ntmps5
  have t3 := Tryz.underlying3
  have u3 := Tryz.runUnderlying3
  have g3 := Tryz.isAgg3
  have z3 := Tryz.sizeOf3
  have t4 := Tryz.underlying4
  have u4 := Tryz.runUnderlying4
  have g4 := Tryz.isAgg4
  have z4 := Tryz.sizeOf4
  have t9 := Tryz.underlying9
  have u9 := Tryz.runUnderlying9
  have g9 := Tryz.isAgg9
  have z9 := Tryz.sizeOf9
  have t30 := Tryz.underlying30
  have u30 := Tryz.runUnderlying30
  have g30 := Tryz.isAgg30
  have z30 := Tryz.sizeOf30
  have t32 := Tryz.underlying32
  have u32 := Tryz.runUnderlying32
  have g32 := Tryz.isAgg32
  have z32 := Tryz.sizeOf32
  have c8 := Tryz.call8
  have c12 := Tryz.call12
  have c13 := Tryz.call13
  have c14 := Tryz.call14
  have c15 := Tryz.call15
  have c16 := Tryz.call16
  have c17 := Tryz.call17
  have mixed : Tryz.prog.follows .mixedOrders = true := by kernel_rfl
  obtain ⟨k62, hk62⟩ : ∃ k, k = 19 := ⟨_, rfl⟩
  rw [← hk62] at z32
  have nk62 : ¬ k62 = 0 := by omega
  have HK32 := Lib.hid hk62
  have hP : Tryz.prog = PD := rfl
  rw [hP] at t3 u3 g3 z3 t4 u4 g4 z4 t9 u9 g9 z9 t30 u30 g30 z30 t32 u32 g32 z32 c8 c12 c13 c14 c15 c16 c17 mixed v62 hPe q62 ⊢
  have HP := Lib.hid hP.symm
  clear hP hk62
  have hPk : P.size = k62 := by rw [HK32.out]; exact hPs
  have hTk : T.size = k62 := by rw [HK32.out]; exact k2
  have hZk : Z.size = k62 := by rw [HK32.out]; exact hZs
  clear hPs hZs k2
  have HSS : Hid (∀ w', Fr No w1 w' → Sem.run PD (loadCellsFrom ⟨nb, 0, none⟩ 0 k62 #[]) w' = .ok P w') := fun w' hf => load_block (hf.keep HB.out.1) hPk (fun j v hv => by simpa using hv)
  go_upto_region 1 with fail
  go_cut [21] (fun s21 wx => s21 = .bool false ∧ Hid (Fr No w1 wx))
  case first =>
    have f5 : Fr No w1 w1.drew := Fr.drew No _
    have hS0 := HSS.out _ f5
    refine wp_region_noPanic ?_
    refine wp_region_held_drew (S := (fun w' : World => Sem.run PD (loadCellsFrom ⟨nb, 0, none⟩ 0 k62 #[]) w' = .ok P w')) (by kernel_rfl) hS0 (fun hHeld => ?_)
    clear hS0
    refine wpAnyH_take (i := 0) (oi := { dst := some 10, op := Op.load 32 (Operand.tmp 2), type := 32, pos := "law.go:81", after := #[], guard := none }) (v := ?v0x1) rfl (by kernel_rfl) (by kernel_rfl) (by kernel_rfl) (fun _ _ _ h => h) (Or.inl ⟨by rfl, ?hy0x1⟩) hHeld ?nx0x1
    case hy0x1 => (intro w hSw; (try dsimp only at hSw); go_simp; try with_reducible rfl)
    try simp only [Act.put, List.setIfInBounds_toArray, List.set_cons_zero, List.set_cons_succ]
    refine wpAnyH_take (i := 2) (oi := { dst := some 12, op := Op.load 32 (Operand.tmp 2), type := 32, pos := "law.go:81", after := #[], guard := none }) (v := ?v2x2) rfl (by kernel_rfl) (by kernel_rfl) (by kernel_rfl) (fun _ _ _ h => h) (Or.inl ⟨by rfl, ?hy2x2⟩) hHeld ?nx2x2
    case hy2x2 => (intro w hSw; (try dsimp only at hSw); go_simp; try with_reducible rfl)
    try simp only [Act.put, List.setIfInBounds_toArray, List.set_cons_zero, List.set_cons_succ]
    refine wpAnyH_ready (rs := [1]) (by kernel_rfl) (by simp) ?_
    refine (AllReadyH.cons (o := { dst := some 11, op := Op.call { callee := Callee.value (Operand.func 12), args := #[Operand.tmp 10], argTypes := #[32] }, type := 4, pos := "law.go:81", after := #[{ on := 0, ground := Ground.data }], guard := none }) rfl (fun K hK => ?_) AllReadyH.nil)
    go_simp
    go_at_call 12
    refine (at_prog HP.out (V1.out _)).mono ?_
    rintro e xx1 ⟨rfl, hx2⟩
    have gg3 := f5.trans hx2
    have hS := HSS.out _ gg3
    clear hx2
    refine hK.out _ _ hS (fun hH2 => ?_)
    clear hK K hHeld
    have hHeld := hH2
    clear hH2 hS
    try simp only [Act.put, List.setIfInBounds_toArray, List.set_cons_zero, List.set_cons_succ]
    refine wpAnyH_ready (rs := [3]) (by kernel_rfl) (by simp) ?_
    refine (AllReadyH.cons (o := { dst := some 13, op := Op.call { callee := Callee.value (Operand.func 13), args := #[Operand.tmp 12], argTypes := #[32] }, type := 4, pos := "law.go:81", after := #[{ on := 2, ground := Ground.data }, { on := 1, ground := Ground.chain }], guard := none }) rfl (fun K hK => ?_) AllReadyH.nil)
    go_simp
    go_at_call 13
    refine (at_prog HP.out (V2.out _)).mono ?_
    rintro e xx4 ⟨rfl, hx5⟩
    have gg6 := gg3.trans hx5
    have hS := HSS.out _ gg6
    clear hx5
    refine hK.out _ _ hS (fun hH2 => ?_)
    clear hK K hHeld
    have hHeld := hH2
    clear hH2 hS
    try simp only [Act.put, List.setIfInBounds_toArray, List.set_cons_zero, List.set_cons_succ]
    refine wpAnyH_take (i := 4) (oi := { dst := some 14, op := Op.binOp BinOp.neq 4 (Operand.tmp 11) (Operand.tmp 13) 4, type := 4, pos := "law.go:81", after := #[{ on := 1, ground := Ground.data }, { on := 3, ground := Ground.data }], guard := none }) (v := ?v4x3) rfl (by kernel_rfl) (by kernel_rfl) (by kernel_rfl) (fun _ _ _ h => h) (Or.inl ⟨by rfl, ?hy4x3⟩) hHeld ?nx4x3
    case hy4x3 => (intro w hSw; (try dsimp only at hSw); go_simp; try with_reducible rfl)
    try simp only [Act.put, List.setIfInBounds_toArray, List.set_cons_zero, List.set_cons_succ]
    refine wpAnyH_take (i := 5) (oi := { dst := some 15, op := Op.move (Operand.tmp 14), type := 4, pos := "law.go:81", after := #[{ on := 4, ground := Ground.data }, { on := 3, ground := Ground.chain }], guard := none }) (v := ?v5x4) rfl (by kernel_rfl) (by kernel_rfl) (by kernel_rfl) (fun _ _ _ h => h) (Or.inl ⟨by rfl, ?hy5x4⟩) hHeld ?nx5x4
    case hy5x4 => (intro w hSw; (try dsimp only at hSw); go_simp; try with_reducible rfl)
    try simp only [Act.put, List.setIfInBounds_toArray, List.set_cons_zero, List.set_cons_succ]
    refine wpAnyH_take (i := 6) (oi := { dst := some 16, op := Op.load 32 (Operand.tmp 2), type := 32, pos := "law.go:81", after := #[{ on := 5, ground := Ground.guard }], guard := some (5, false) }) (v := ?v6x5) rfl (by kernel_rfl) (by kernel_rfl) (by kernel_rfl) (fun _ _ _ h => h) (Or.inl ⟨by rfl, ?hy6x5⟩) hHeld ?nx6x5
    case hy6x5 => (intro w hSw; (try dsimp only at hSw); go_simp; try with_reducible rfl)
    try simp only [Act.put, List.setIfInBounds_toArray, List.set_cons_zero, List.set_cons_succ]
    refine wpAnyH_take (i := 8) (oi := { dst := some 18, op := Op.load 32 (Operand.tmp 2), type := 32, pos := "law.go:81", after := #[{ on := 5, ground := Ground.guard }], guard := some (5, false) }) (v := ?v8x6) rfl (by kernel_rfl) (by kernel_rfl) (by kernel_rfl) (fun _ _ _ h => h) (Or.inl ⟨by rfl, ?hy8x6⟩) hHeld ?nx8x6
    case hy8x6 => (intro w hSw; (try dsimp only at hSw); go_simp; try with_reducible rfl)
    try simp only [Act.put, List.setIfInBounds_toArray, List.set_cons_zero, List.set_cons_succ]
    refine wpAnyH_ready (rs := [7]) (by kernel_rfl) (by simp) ?_
    refine (AllReadyH.cons (o := { dst := some 17, op := Op.call { callee := Callee.value (Operand.func 14), args := #[Operand.tmp 16], argTypes := #[32] }, type := 9, pos := "law.go:81", after := #[{ on := 6, ground := Ground.data }, { on := 5, ground := Ground.chain }, { on := 5, ground := Ground.guard }], guard := some (5, false) }) rfl (fun K hK => ?_) AllReadyH.nil)
    go_simp
    go_at_call 14
    refine (at_prog HP.out (A1.out _ (HB.out.2.2.1.fr (HB.out.2.1.trans gg6)))).mono ?_
    rintro e xx7 ⟨rfl, hx8⟩
    have gg9 := gg6.trans hx8
    have hS := HSS.out _ gg9
    clear hx8
    refine hK.out _ _ hS (fun hH2 => ?_)
    clear hK K hHeld
    have hHeld := hH2
    clear hH2 hS
    try simp only [Act.put, List.setIfInBounds_toArray, List.set_cons_zero, List.set_cons_succ]
    refine wpAnyH_ready (rs := [9]) (by kernel_rfl) (by simp) ?_
    refine (AllReadyH.cons (o := { dst := some 19, op := Op.call { callee := Callee.value (Operand.func 15), args := #[Operand.tmp 18], argTypes := #[32] }, type := 9, pos := "law.go:81", after := #[{ on := 8, ground := Ground.data }, { on := 7, ground := Ground.chain }, { on := 5, ground := Ground.guard }], guard := some (5, false) }) rfl (fun K hK => ?_) AllReadyH.nil)
    go_simp
    go_at_call 15
    refine (at_prog HP.out (A2.out _)).mono ?_
    rintro e xx10 ⟨rfl, hx11⟩
    have gg12 := gg9.trans hx11
    have hS := HSS.out _ gg12
    clear hx11
    refine hK.out _ _ hS (fun hH2 => ?_)
    clear hK K hHeld
    have hHeld := hH2
    clear hH2 hS
    try simp only [Act.put, List.setIfInBounds_toArray, List.set_cons_zero, List.set_cons_succ]
    refine wpAnyH_take (i := 10) (oi := { dst := some 20, op := Op.binOp BinOp.neq 9 (Operand.tmp 17) (Operand.tmp 19) 9, type := 4, pos := "law.go:81", after := #[{ on := 7, ground := Ground.data }, { on := 9, ground := Ground.data }, { on := 5, ground := Ground.guard }], guard := some (5, false) }) (v := ?v10x7) rfl (by kernel_rfl) (by kernel_rfl) (by kernel_rfl) (fun _ _ _ h => h) (Or.inl ⟨by rfl, ?hy10x7⟩) hHeld ?nx10x7
    case hy10x7 => (intro w hSw; (try dsimp only at hSw); go_simp; try with_reducible rfl)
    try simp only [Act.put, List.setIfInBounds_toArray, List.set_cons_zero, List.set_cons_succ]
    refine wpAnyH_take (i := 11) (oi := { dst := some 21, op := Op.pick (Operand.tmp 15) (Operand.const (Value.bool true)) (Operand.tmp 20), type := 4, pos := "law.go:81", after := #[{ on := 5, ground := Ground.data }, { on := 10, ground := Ground.data }], guard := none }) (v := ?v11x8) rfl (by kernel_rfl) (by kernel_rfl) (by kernel_rfl) (fun _ _ _ h => h) (Or.inl ⟨by rfl, ?hy11x8⟩) hHeld ?nx11x8
    case hy11x8 => (intro w hSw; (try dsimp only at hSw); go_simp; try with_reducible rfl)
    try simp only [Act.put, List.setIfInBounds_toArray, List.set_cons_zero, List.set_cons_succ]
    refine wpAnyH_done (by kernel_rfl) ?_ _
    refine NoPanic.normal ?_
    go_wp2_with fail
    go_meet
    exact ⟨rfl, gg12⟩
  case rest =>
    obtain ⟨rfl, HC⟩ := hcut
    clear A2 e1 e1' e2
    go_upto_region 4 with (first | (go_at_call 16; refine (at_prog HP.out (G1.out _)).mono ?_; rintro e w2 ⟨ml, c, ys, m, hyb, hyv, rfl, hf2⟩; have hRk : (tgt (bs ml) c ys m).toArray.size = k62 := (by rw [HK32.out]; exact tgt_size hyb); obtain ⟨y1, hst1, hyb1, hyf1⟩ := store_all (P := PD) (tgt (bs ml) c ys m).toArray.toList (heap_alloc_new w2 (.cells Z 32)) (by rw [Array.length_toList, hRk, hZk]) (tgt_ones _ _ _ _)) | fail)
    obtain ⟨qb, hqb⟩ : ∃ qb, w2.heap.size = qb := ⟨_, rfl⟩
    have K1 : Fr No w1 y1 := ((HC.out.trans hf2).trans (Fr.alloc No w2 (.cells Z 32))).ofNew hyf1 fun k hk => .inr (by rw [hk]; exact (HC.out.trans hf2).size)
    rw [hqb] at hyb1 ⊢
    obtain ⟨tt, htt⟩ : ∃ tt : Bool, true = tt := ⟨_, rfl⟩
    have hnt : (!tt) = false := by rw [← htt]; rfl
    obtain ⟨r1, r2⟩ := pt_round hyb hyv
    have hml := fT_len (nl := ml) (b := c) (p := m) hyb
    have B1 : Hid (∀ w', Gl w' → Calls Tryz.prog 14 #[.agg (tgt (bs ml) c ys m).toArray] w' fun e w'' => e = .returned (.string (bs (fT ml c ys m))) ∧ Fr No w' w'') := fun w' h => format_t ml c ys m hyb w' h
    have B2 : Hid (∀ w', Gl w' → Calls Tryz.prog 17 #[.string (bs (fT ml c ys m))] w' fun e w'' => e = .returned (.tuple #[.agg (tgt (bs ml) c ys m).toArray, .bool tt]) ∧ Fr No w' w'') := fun w' h => by
      have h1 := ptarget_any (fT ml c ys m) w' h.g (by omega)
      rw [r1, r2, htt] at h1
      exact h1
    have B3 : Hid (∀ w', Calls Tryz.prog 12 #[.agg (tgt (bs ml) c ys m).toArray] w' fun e w'' => e = .returned (.bool tt) ∧ Fr No w' w'') := fun w' => by
      have h1 := valid_t ml c ys m hyb w'
      rw [hyv, htt] at h1
      exact h1
    have hRe : ∀ w, Sem.run PD (Op.equalIn 10000 32 (.agg (tgt (bs ml) c ys m).toArray) (.agg (tgt (bs ml) c ys m).toArray)) w = .ok true w := fun w => by
      have h := tgt_same ml c ys m hyb w
      exact h
    have hR1 := tgt_ones (bs ml) c ys m
    have hyb2 : y1.heap[qb]? = some (.cells (tgt (bs ml) c ys m).toArray 32 (0, 0)) := by simpa using hyb1
    generalize bs (fT ml c ys m) = fq at B1 B2
    generalize (tgt (bs ml) c ys m).toArray = R at B1 B2 B3 hRe hR1 hRk hyb2
    have HR := Lib.hid hR1
    have HY : Hid (Fr No w1 y1 ∧ y1.heap[qb]? = some (.cells R 32 (0, 0))) := ⟨K1, hyb2⟩
    clear hyb1 hyb2 hyf1 hst1 hf2 K1 hR1 hyb hyv r1 r2 hml hqb htt G1 HC
    have HSR : Hid (∀ w', Fr No y1 w' → Sem.run PD (loadCellsFrom ⟨qb, 0, none⟩ 0 k62 #[]) w' = .ok R w') := fun w' hf => load_block (hf.keep HY.out.2) hRk (fun j v hv => by simpa using hv)
    have lr0 := HSR.out y1 (Fr.refl No _)
    go_upto_region 8 with (first | (go_at_call 14; with_reducible refine (at_prog HP.out (B1.out _ (HB.out.2.2.1.fr (HB.out.2.1.trans HY.out.1)))).mono ?_; rintro e a1 ⟨rfl, ha1⟩) | (go_at_call 17; with_reducible refine (at_prog HP.out (B2.out _ (HB.out.2.2.1.fr ((HB.out.2.1.trans HY.out.1).trans ha1)))).mono ?_; rintro e a2 ⟨rfl, ha2⟩; obtain ⟨x2, hs2, hb2, hf2⟩ := store_all (P := PD) R.toList (heap_alloc_new a2 (.cells Z 32)) (by rw [Array.length_toList, hRk, hZk]) HR.out; have K2 : Fr No y1 x2 := ((ha1.trans ha2).trans (Fr.alloc No a2 (.cells Z 32))).ofNew hf2 (fun k hk => .inr (by rw [hk]; exact (ha1.trans ha2).size)); have lr2 := HSR.out x2 K2; have ls2 : Sem.run PD (loadCellsFrom ⟨a2.heap.size, 0, none⟩ 0 k62 #[]) x2 = .ok R x2 := load_block hb2 (by simpa using hRk) (fun j v hv => by simpa using hv)) | (go_at_call 12; with_reducible refine (at_prog HP.out (B3.out _)).mono ?_; rintro e a3 ⟨rfl, ha3⟩; have lp3 := HSS.out a3 ((HY.out.1.trans K2).trans ha3)) | (go_at_call 14; with_reducible refine (at_prog HP.out (A1.out _ (HB.out.2.2.1.fr (HB.out.2.1.trans ((HY.out.1.trans K2).trans ha3))))).mono ?_; rintro e a4 ⟨rfl, ha4⟩) | (go_at_call 17; with_reducible refine (at_prog HP.out (S1.out _ (HB.out.2.2.1.fr (HB.out.2.1.trans (((HY.out.1.trans K2).trans ha3).trans ha4))))).mono ?_; rintro e a5 ⟨rfl, ha5⟩; obtain ⟨x5, hs5, hb5, hf5⟩ := store_all (P := PD) T.toList (heap_alloc_new a5 (.cells Z 32)) (by rw [Array.length_toList, hTk, hZk]) HB.out.2.2.2.1; have K5 : Fr No a3 x5 := ((ha4.trans ha5).trans (Fr.alloc No a5 (.cells Z 32))).ofNew hf5 (fun k hk => .inr (by rw [hk]; exact (ha4.trans ha5).size))) | fail)
    have HX : Hid (Fr No w1 x5 ∧ x5.heap[a5.heap.size]? = some (.cells T 32 (0, 0))) := ⟨((HY.out.1.trans K2).trans ha3).trans K5, by simpa using hb5⟩
    generalize a5.heap.size = tb at HX ⊢
    clear hb2 hb5 hs2 hs5 hf2 hf5 ha1 ha2 ha3 ha4 ha5 K2 K5 lr0 lr2 ls2 lp3 B1 B2 B3 HSR hRe hRk HY HR A1 S1 V1
    cases ub
    · go_wp2_with (first | (go_at_call 8; refine (at_prog HP.out (hawake_any _ (HB.out.2.2.1.fr (HB.out.2.1.trans HX.out.1)))).mono ?_; rintro e z1 ⟨rfl, hz1⟩; have lp := HSS.out z1 (HX.out.1.trans hz1)) | (go_at_call 13; refine (at_prog HP.out (V2.out _)).mono ?_; rintro e z2 ⟨rfl, hz2⟩) | fail)
      go_ret
      exact ⟨rfl, HB.out.2.1.trans ((HX.out.1.trans hz1).trans hz2)⟩
    · obtain rfl := HB.out.2.2.2.2 rfl
      go_wp2_with (first | (go_at_call 8; refine (at_prog HP.out (hawake_any _ (HB.out.2.2.1.fr (HB.out.2.1.trans HX.out.1)))).mono ?_; rintro e z1 ⟨rfl, hz1⟩; have lp := HSS.out z1 (HX.out.1.trans hz1)) | (go_at_call 13; refine (at_prog HP.out (V2.out _)).mono ?_; rintro e z2 ⟨rfl, hz2⟩; have lp2 := HSS.out z2 ((HX.out.1.trans hz1).trans hz2); have lt2 : Sem.run PD (loadCellsFrom ⟨tb, 0, none⟩ 0 k62 #[]) z2 = .ok T z2 := load_block ((hz1.trans hz2).keep HX.out.2) hTk (fun j v hv => by simpa using hv)) | fail)
      go_ret
      exact ⟨rfl, HB.out.2.1.trans ((HX.out.1.trans hz1).trans hz2)⟩
end Go.Proofs.YtmhnailcmlomiaaGreatDoor
