/-
  CONTRACT of the reference's PrefixOf, over this seat's translation: what the call returns.
  Conditions: the argument is an address.
  CONTRACT of the reference's ValidPrefix, over this seat's translation: what the call returns.
  Conditions: the argument is a prefix.
  CONTRACTS of the reference's Contains and Covers, over this seat's translation: what each call returns.
  Conditions: the arguments are addresses and prefixes.
  CONTRACTS of cmp.Compare, of package cidr's Compare and of the reference's Compare and ComparePrefix, over this seat's translation: what each call returns.
  Conditions: the arguments are addresses and prefixes.
  The order of prefixes, and a tree's list in that order; no walk.
  Conditions: none but that bytes are bytes.
  Tries in memory: the blocks of a tree after a put or a removal; a trie of two trees; no walk.
  Conditions: none.
  Tries in memory: what a put makes of the memory, once the place is written; no walk.
  Conditions: none.
  Tries in memory: a trie once a prefix is put in or taken away; its list; no walk.
  Conditions: none.
  A trie as a list, its blocks apart from a given set; no walk.
  Conditions: none.
  CONTRACT of the reference's PrefixOf, over this seat's translation: what the call returns.
  Conditions: the argument is an address.
-/
import Derived.Test.YtnadendhboiliaaGreatCb
import Derived.Test.YtnadendhboiliaaGreatR10
import Derived.Deep.RegionHeld3
import Derived.Test.YtnadendhboiliaaGreatGr
import Derived.Deep.QuietTactic
import Derived.BigQuiet
import Derived.Lib.BytesEntry
import Derived.Lib.Bytealg
import Derived.Test.YtnadendhboiliaaGreatMa
import Derived.Test.YtnadendhboiliaaGreatWd
namespace Go.Proofs.YtnadendhboiliaaGreat
open Go.ChangeShapes Go.WideShapes Go.ChangeAt Go.RowKit
set_option linter.unusedVariables false

end Go.Proofs.YtnadendhboiliaaGreat
namespace Go.Proofs.YtnadendhboiliaaGreat
open Go.ChangeShapes Go.WideShapes Go.ChangeAt Go.RowKit
set_option linter.unusedVariables false

theorem bitX_lt (xs : List Nat) (i : Nat) : bitX xs i < 2 := Nat.mod_lt _ (by decide)

set_option maxHeartbeats 4000000 in
set_option maxRecDepth 100000 in
theorem validp_ref (b : Bool) (xs : List Nat) (n : Int) (hx : Bytes xs) (w : World) :
    Calls Tryz.prog 46 #[.agg (pfx b xs n).toArray] w fun e w' => e = .returned (.bool (validP b xs n)) ∧ Fr No w w' := by
  obtain ⟨P, hP0, -, hP17, hPs, hPA, -⟩ := pfx_letter b xs n hx
  obtain ⟨A, hA, h0, hsz, -⟩ := adr_letter b xs hx
  have HVA : Hid (∀ w', Calls Tryz.prog 68 #[.agg A] w' fun e w'' => e = .returned (.bool (validA b xs)) ∧ Fr No w' w'') := fun w' => by rw [← hA]; exact valid_ref b xs hx w'
  have HBL : Hid (∀ w', Calls Tryz.prog 60 #[.agg A] w' fun e w'' => e = .returned (.int .i64 (bitsOf b)) ∧ Fr No w' w'') := fun w' => bitLen_R b A h0 w'
  have HBT : Hid (∀ (i : Nat), (i : Int) < bitsOf b → ∀ w', Calls Tryz.prog 69 #[.agg A, .int .i64 i] w' fun e w'' => e = .returned (.int .i64 (bitX xs i : Nat)) ∧ Fr No w' w'') := fun i hi w' => by rw [← hA]; exact bit_ref b xs i hx hi w'
  rw [hA] at hPA
  rw [hP0]
  have hb1 := heap_alloc_new w (.cells P 29)
  have HF : Hid (Fr No w (w.alloc (.cells P 29))) := Fr.alloc _ _ _
  have HLD : Hid (∀ w', Fr No (w.alloc (.cells P 29)) w' → Sem.run Tryz.prog (loadCellsFrom ⟨w.heap.size, 0, none⟩ 0 17 #[]) w' = .ok A w' ∧ w'.cell? ⟨w.heap.size, 17, none⟩ = some (.int .i64 n)) := fun w' hf => by
    have k1 := hf.keep hb1
    exact ⟨load_block k1 hsz (adr_part hsz hPA), by rw [cell_of_row _ _ _ _ _ _ k1]; exact hP17⟩
  have HR : Hid (validP b xs n = (validA b xs && decide (0 ≤ n) && decide (n ≤ bitsOf b) && tailZ b xs n)) := rfl
  have HTZ : Hid ((tailZ b xs n = true) ↔ ∀ i : Nat, i < 128 → n ≤ i → (i : Int) < bitsOf b → bitX xs i = 0) := tailZ_iff
  have HBO : Hid (0 ≤ bitsOf b ∧ bitsOf b ≤ 128) := bitsOf_le b
  rw [HR.out]
  clear hb1 hP0 hP17 hA h0 hPA hx
  generalize tailZ b xs n = tz at HTZ HR ⊢
  generalize validA b xs = va at HVA HR ⊢
  generalize bitsOf b = L at HBL HBT HTZ HBO HR ⊢
  have hV : ((va = true ∧ 0 ≤ n ∧ n ≤ L) ∨ va = false ∨ (va = true ∧ n < 0) ∨ (va = true ∧ 0 ≤ n ∧ L < n)) := by
    cases va
    · exact .inr (.inl rfl)
    · by_cases h1 : n < 0
      · exact .inr (.inr (.inl ⟨rfl, h1⟩))
      · by_cases h2 : L < n
        · exact .inr (.inr (.inr ⟨rfl, by omega, h2⟩))
        · exact .inl ⟨rfl, by omega, by omega⟩
  obtain ⟨w1, hw1⟩ : ∃ w1, w.alloc (.cells P 29) = w1 := ⟨_, rfl⟩
  rcases hV with ⟨rfl, h1, h2⟩ | rfl | ⟨rfl, p1⟩ | ⟨rfl, p0, p2⟩
  · obtain ⟨k, rfl⟩ : ∃ k : Nat, n = k := ⟨n.toNat, by omega⟩
    obtain ⟨B, rfl⟩ : ∃ B : Nat, L = B := ⟨L.toNat, by have := HBO.out; omega⟩
    have hB128 : B ≤ 128 := by have := HBO.out; omega
    have hkB : k ≤ B := by omega
    have q1 : decide ((k : Int) < 0) = false := decide_eq_false (by omega)
    have q2 : decide (B < k) = false := decide_eq_false (by omega)
    rw [decide_eq_true h1, decide_eq_true h2]
    clear h1 h2 HBO HR
    go_enter Tryz.func46, Tryz.ntmps46
    have t3 := Tryz.underlying3
    have u3 := Tryz.runUnderlying3
    have g3 := Tryz.isAgg3
    have z3 := Tryz.sizeOf3
    have t4 := Tryz.underlying4
    have u4 := Tryz.runUnderlying4
    have g4 := Tryz.isAgg4
    have z4 := Tryz.sizeOf4
    have t25 := Tryz.underlying25
    have u25 := Tryz.runUnderlying25
    have g25 := Tryz.isAgg25
    have z25 := Tryz.sizeOf25
    have t29 := Tryz.underlying29
    have u29 := Tryz.runUnderlying29
    have g29 := Tryz.isAgg29
    have z29 := Tryz.sizeOf29
    have c68 := Tryz.call68
    have c60 := Tryz.call60
    have c69 := Tryz.call69
    have mixed : Tryz.prog.follows .mixedOrders = true := by kernel_rfl
    obtain ⟨k30, hk30⟩ : ∃ k, k = 17 := ⟨_, rfl⟩
    rw [← hk30] at z25
    have nk30 : ¬ k30 = 0 := by omega
    have HK25 := Lib.hid hk30
    obtain ⟨k40, hk40⟩ : ∃ k, k = 18 := ⟨_, rfl⟩
    rw [← hk40] at z29
    have nk40 : ¬ k40 = 0 := by omega
    have HK29 := Lib.hid hk40
    have hP : Tryz.prog = PD := rfl
    rw [hP] at t3 u3 g3 z3 t4 u4 g4 z4 t25 u25 g25 z25 t29 u29 g29 z29 c68 c60 c69 mixed HLD ⊢
    have HP := Lib.hid hP.symm
    clear hP hk30 hk40
    have hAk : A.size = k30 := by rw [HK25.out]; exact hsz
    have hPk : P.size = k40 := by rw [HK29.out]; exact hPs
    clear hsz hPs
    rw [hw1] at HF HLD
    go_wp2_with fail
    obtain ⟨nb, hnb⟩ : ∃ nb, w.heap.size = nb := ⟨_, rfl⟩
    rw [hnb] at HLD ⊢
    have HSS : Hid (∀ w', Fr No w1 w' → Sem.run PD (loadCellsFrom ⟨nb, 0, none⟩ 0 k30 #[]) w' = .ok A w' ∧ w'.cell? ⟨nb, 17, none⟩ = some (.int .i64 k)) := fun w' hf => ⟨by rw [HK25.out]; exact (HLD.out w' hf).1, (HLD.out w' hf).2⟩
    clear hnb hw1
    have f5 : Fr No w1 w1.drew := Fr.drew No _
    have hS0 := HSS.out _ f5
    refine wp_region_noPanic ?_
    refine wp_region_held_drew (S := (fun w' : World => Sem.run PD (loadCellsFrom ⟨nb, 0, none⟩ 0 k30 #[]) w' = .ok A w' ∧ w'.cell? ⟨nb, 17, none⟩ = some (.int .i64 k))) (by kernel_rfl) hS0 (fun hHeld => ?_)
    refine wpAnyH_take (i := 0) (oi := { dst := some 4, op := Op.fieldAddr 29 (Operand.tmp 1) 0, type := 0, pos := "ref.go:383", after := #[], guard := none }) (v := ?v0c) rfl (by kernel_rfl) (by kernel_rfl) (by kernel_rfl) (fun _ _ _ h => h) (Or.inl ⟨by rfl, ?hy0c⟩) hHeld ?nx0c
    case hy0c => (intro w hSw; (try dsimp only at hSw); go_simp; try with_reducible rfl)
    try simp only [Act.put, List.setIfInBounds_toArray, List.set_cons_zero, List.set_cons_succ]
    refine wpAnyH_take (i := 1) (oi := { dst := some 5, op := Op.load 25 (Operand.tmp 4), type := 25, pos := "ref.go:383", after := #[{ on := 0, ground := Ground.data }], guard := none }) (v := ?v1c) rfl (by kernel_rfl) (by kernel_rfl) (by kernel_rfl) (fun _ _ _ h => h) (Or.inl ⟨by rfl, ?hy1c⟩) hHeld ?nx1c
    case hy1c => (intro w hSw; (try dsimp only at hSw); go_simp; try with_reducible rfl)
    try simp only [Act.put, List.setIfInBounds_toArray, List.set_cons_zero, List.set_cons_succ]
    refine wpAnyH_ready (rs := [2]) (by kernel_rfl) (by simp) ?_
    refine AllReadyH.cons (o := { dst := some 6, op := Op.call { callee := Callee.value (Operand.func 68), args := #[Operand.tmp 5], argTypes := #[25] }, type := 4, pos := "ref.go:383", after := #[{ on := 1, ground := Ground.data }], guard := none }) rfl (fun K hK => ?_) AllReadyH.nil
    go_simp
    go_at_call 68
    refine (at_prog HP.out (HVA.out _)).mono ?_
    rintro e x0 ⟨rfl, h0⟩
    have g0 := f5.trans h0
    have hS := HSS.out _ g0
    clear h0
    refine hK.out _ _ hS (fun hH2 => ?_)
    clear hK K hHeld
    have hHeld := hH2
    clear hH2 hS
    try simp only [Act.put, List.setIfInBounds_toArray, List.set_cons_zero, List.set_cons_succ]
    refine wpAnyH_take (i := 3) (oi := { dst := some 7, op := Op.unOp UnOp.not 4 (Operand.tmp 6), type := 4, pos := "ref.go:383", after := #[{ on := 2, ground := Ground.data }], guard := none }) (v := ?v3c) rfl (by kernel_rfl) (by kernel_rfl) (by kernel_rfl) (fun _ _ _ h => h) (Or.inl ⟨by rfl, ?hy3c⟩) hHeld ?nx3c
    case hy3c => (intro w hSw; (try dsimp only at hSw); go_simp; try with_reducible rfl)
    try simp only [Act.put, List.setIfInBounds_toArray, List.set_cons_zero, List.set_cons_succ]
    refine wpAnyH_take (i := 4) (oi := { dst := some 8, op := Op.move (Operand.tmp 7), type := 4, pos := "ref.go:383", after := #[{ on := 3, ground := Ground.data }, { on := 2, ground := Ground.chain }], guard := none }) (v := ?v4c) rfl (by kernel_rfl) (by kernel_rfl) (by kernel_rfl) (fun _ _ _ h => h) (Or.inl ⟨by rfl, ?hy4c⟩) hHeld ?nx4c
    case hy4c => (intro w hSw; (try dsimp only at hSw); go_simp; try with_reducible rfl)
    try simp only [Act.put, List.setIfInBounds_toArray, List.set_cons_zero, List.set_cons_succ]
    refine wpAnyH_take (i := 5) (oi := { dst := some 9, op := Op.fieldAddr 29 (Operand.tmp 1) 1, type := 0, pos := "ref.go:383", after := #[{ on := 4, ground := Ground.guard }], guard := some (4, false) }) (v := ?v5c) rfl (by kernel_rfl) (by kernel_rfl) (by kernel_rfl) (fun _ _ _ h => h) (Or.inl ⟨by rfl, ?hy5c⟩) hHeld ?nx5c
    case hy5c => (intro w hSw; (try dsimp only at hSw); go_simp; try with_reducible rfl)
    try simp only [Act.put, List.setIfInBounds_toArray, List.set_cons_zero, List.set_cons_succ]
    refine wpAnyH_take (i := 6) (oi := { dst := some 10, op := Op.load 3 (Operand.tmp 9), type := 3, pos := "ref.go:383", after := #[{ on := 5, ground := Ground.data }, { on := 4, ground := Ground.guard }], guard := some (4, false) }) (v := ?v6c) rfl (by kernel_rfl) (by kernel_rfl) (by kernel_rfl) (fun _ _ _ h => h) (Or.inl ⟨by rfl, ?hy6c⟩) hHeld ?nx6c
    case hy6c => (intro w hSw; (try dsimp only at hSw); go_simp; try with_reducible rfl)
    try simp only [Act.put, List.setIfInBounds_toArray, List.set_cons_zero, List.set_cons_succ]
    refine wpAnyH_take (i := 7) (oi := { dst := some 11, op := Op.binOp BinOp.lss 3 (Operand.tmp 10) (Operand.const (Value.int IntKind.i64 0)) 3, type := 4, pos := "ref.go:383", after := #[{ on := 6, ground := Ground.data }, { on := 4, ground := Ground.guard }], guard := some (4, false) }) (v := ?v7c) rfl (by kernel_rfl) (by kernel_rfl) (by kernel_rfl) (fun _ _ _ h => h) (Or.inl ⟨by rfl, ?hy7c⟩) hHeld ?nx7c
    case hy7c => (intro w hSw; (try dsimp only at hSw); go_simp; try with_reducible rfl)
    try simp only [Act.put, List.setIfInBounds_toArray, List.set_cons_zero, List.set_cons_succ]
    refine wpAnyH_take (i := 8) (oi := { dst := some 12, op := Op.pick (Operand.tmp 8) (Operand.const (Value.bool true)) (Operand.tmp 11), type := 4, pos := "ref.go:383", after := #[{ on := 4, ground := Ground.data }, { on := 7, ground := Ground.data }], guard := none }) (v := ?v8c) rfl (by kernel_rfl) (by kernel_rfl) (by kernel_rfl) (fun _ _ _ h => h) (Or.inl ⟨by rfl, ?hy8c⟩) hHeld ?nx8c
    case hy8c => (intro w hSw; (try dsimp only at hSw); go_simp; try with_reducible rfl)
    try simp only [Act.put, List.setIfInBounds_toArray, List.set_cons_zero, List.set_cons_succ]
    refine wpAnyH_take (i := 9) (oi := { dst := some 13, op := Op.move (Operand.tmp 12), type := 4, pos := "ref.go:383", after := #[{ on := 8, ground := Ground.data }, { on := 4, ground := Ground.chain }], guard := none }) (v := ?v9c) rfl (by kernel_rfl) (by kernel_rfl) (by kernel_rfl) (fun _ _ _ h => h) (Or.inl ⟨by rfl, ?hy9c⟩) hHeld ?nx9c
    case hy9c => (intro w hSw; (try dsimp only at hSw); go_simp; try with_reducible rfl)
    try simp only [Act.put, List.setIfInBounds_toArray, List.set_cons_zero, List.set_cons_succ]
    refine wpAnyH_take (i := 10) (oi := { dst := some 14, op := Op.fieldAddr 29 (Operand.tmp 1) 1, type := 0, pos := "ref.go:383", after := #[{ on := 9, ground := Ground.guard }], guard := some (9, false) }) (v := ?v10c) rfl (by kernel_rfl) (by kernel_rfl) (by kernel_rfl) (fun _ _ _ h => h) (Or.inl ⟨by rfl, ?hy10c⟩) hHeld ?nx10c
    case hy10c => (intro w hSw; (try dsimp only at hSw); go_simp; try with_reducible rfl)
    try simp only [Act.put, List.setIfInBounds_toArray, List.set_cons_zero, List.set_cons_succ]
    refine wpAnyH_take (i := 11) (oi := { dst := some 15, op := Op.load 3 (Operand.tmp 14), type := 3, pos := "ref.go:383", after := #[{ on := 10, ground := Ground.data }, { on := 9, ground := Ground.guard }], guard := some (9, false) }) (v := ?v11c) rfl (by kernel_rfl) (by kernel_rfl) (by kernel_rfl) (fun _ _ _ h => h) (Or.inl ⟨by rfl, ?hy11c⟩) hHeld ?nx11c
    case hy11c => (intro w hSw; (try dsimp only at hSw); go_simp; try with_reducible rfl)
    try simp only [Act.put, List.setIfInBounds_toArray, List.set_cons_zero, List.set_cons_succ]
    refine wpAnyH_take (i := 12) (oi := { dst := some 16, op := Op.fieldAddr 29 (Operand.tmp 1) 0, type := 0, pos := "ref.go:383", after := #[{ on := 9, ground := Ground.guard }], guard := some (9, false) }) (v := ?v12c) rfl (by kernel_rfl) (by kernel_rfl) (by kernel_rfl) (fun _ _ _ h => h) (Or.inl ⟨by rfl, ?hy12c⟩) hHeld ?nx12c
    case hy12c => (intro w hSw; (try dsimp only at hSw); go_simp; try with_reducible rfl)
    try simp only [Act.put, List.setIfInBounds_toArray, List.set_cons_zero, List.set_cons_succ]
    refine wpAnyH_take (i := 13) (oi := { dst := some 17, op := Op.load 25 (Operand.tmp 16), type := 25, pos := "ref.go:383", after := #[{ on := 12, ground := Ground.data }, { on := 9, ground := Ground.guard }], guard := some (9, false) }) (v := ?v13c) rfl (by kernel_rfl) (by kernel_rfl) (by kernel_rfl) (fun _ _ _ h => h) (Or.inl ⟨by rfl, ?hy13c⟩) hHeld ?nx13c
    case hy13c => (intro w hSw; (try dsimp only at hSw); go_simp; try with_reducible rfl)
    try simp only [Act.put, List.setIfInBounds_toArray, List.set_cons_zero, List.set_cons_succ]
    refine wpAnyH_ready (rs := [14]) (by kernel_rfl) (by simp) ?_
    refine AllReadyH.cons (o := { dst := some 18, op := Op.call { callee := Callee.value (Operand.func 60), args := #[Operand.tmp 17], argTypes := #[25] }, type := 3, pos := "ref.go:383", after := #[{ on := 13, ground := Ground.data }, { on := 9, ground := Ground.chain }, { on := 9, ground := Ground.guard }], guard := some (9, false) }) rfl (fun K hK => ?_) AllReadyH.nil
    go_simp
    go_at_call 60
    refine (at_prog HP.out (HBL.out _)).mono ?_
    rintro e x1 ⟨rfl, h1⟩
    have g1 := g0.trans h1
    have hS := HSS.out _ g1
    clear h1
    refine hK.out _ _ hS (fun hH2 => ?_)
    clear hK K hHeld
    have hHeld := hH2
    clear hH2 hS
    try simp only [Act.put, List.setIfInBounds_toArray, List.set_cons_zero, List.set_cons_succ]
    refine wpAnyH_take (i := 15) (oi := { dst := some 19, op := Op.binOp BinOp.gtr 3 (Operand.tmp 15) (Operand.tmp 18) 3, type := 4, pos := "ref.go:383", after := #[{ on := 11, ground := Ground.data }, { on := 14, ground := Ground.data }, { on := 9, ground := Ground.guard }], guard := some (9, false) }) (v := ?v15c) rfl (by kernel_rfl) (by kernel_rfl) (by kernel_rfl) (fun _ _ _ h => h) (Or.inl ⟨by rfl, ?hy15c⟩) hHeld ?nx15c
    case hy15c => (intro w hSw; (try dsimp only at hSw); go_simp; try with_reducible rfl)
    try simp only [Act.put, List.setIfInBounds_toArray, List.set_cons_zero, List.set_cons_succ]
    refine wpAnyH_take (i := 16) (oi := { dst := some 20, op := Op.pick (Operand.tmp 13) (Operand.const (Value.bool true)) (Operand.tmp 19), type := 4, pos := "ref.go:383", after := #[{ on := 9, ground := Ground.data }, { on := 15, ground := Ground.data }], guard := none }) (v := ?v16c) rfl (by kernel_rfl) (by kernel_rfl) (by kernel_rfl) (fun _ _ _ h => h) (Or.inl ⟨by rfl, ?hy16c⟩) hHeld ?nx16c
    case hy16c => (intro w hSw; (try dsimp only at hSw); go_simp; try with_reducible rfl)
    try simp only [Act.put, List.setIfInBounds_toArray, List.set_cons_zero, List.set_cons_succ]
    refine wpAnyH_done (by kernel_rfl) ?_ _
    refine NoPanic.normal ?_
    have HG := Lib.hid g1
    obtain ⟨m1, n1⟩ := hHeld
    clear g0 g1 hS0
    go_wp2_with fail
    clear m1 n1
    go_loopg [3] (B - k + 1) (fun g s wr => ∃ i : Nat, s = .int .i64 i ∧ k ≤ i ∧ i ≤ B ∧ B - i < g ∧ Hid (Fr No x1 wr ∧ ∀ j : Nat, k ≤ j → j < i → bitX xs j = 0))
    case atStart => exact ⟨k, by go_num, Nat.le_refl _, hkB, by omega, Fr.refl _ _, fun j h1 h2 => by omega⟩
    case round =>
      obtain ⟨i, rfl, hni, hiB, hig, HR⟩ := hrel
      have HM : Hid (∀ w', Fr No wr w' → Sem.run PD (loadCellsFrom ⟨nb, 0, none⟩ 0 k30 #[]) w' = .ok A w') := fun w' hf => (HSS.out w' ((HG.out.trans HR.out.1).trans hf)).1
      have m2 := HM.out wr (Fr.refl _ _)
      by_cases hi : i = B
      · have HV : Hid (tz = true) := HTZ.out.2 fun j h1 h2 h3 => HR.out.2 j (by omega) (by omega)
        have hib : ¬ (i : Int) < (B : Int) := by omega
        go_wp2_with (first | (go_at_call 60; refine (at_prog HP.out (HBL.out _)).mono ?_; rintro e w5 ⟨rfl, hf5⟩) | fail)
        go_ret
        exact ⟨by rw [HV.out]; rfl, ((HF.out.trans HG.out).trans HR.out.1).trans hf5⟩
      · have hib : (i : Int) < (B : Int) := by omega
        have HB2 := Lib.hid (HBT.out i hib)
        have hx2 := bitX_lt xs i
        obtain ⟨x, hx⟩ : ∃ x, bitX xs i = x := ⟨_, rfl⟩
        rw [hx] at HB2 hx2
        have HX := Lib.hid hx
        clear hx
        by_cases hx0 : x = 0
        · have hxi : (x : Int) = 0 := by omega
          rw [hxi] at HB2
          go_wp2_with (first | (go_at_call 60; refine (at_prog HP.out (HBL.out _)).mono ?_; rintro e w5 ⟨rfl, hf5⟩; have m3 := HM.out w5 hf5) | (go_at_call 69; refine (at_prog HP.out (HB2.out _)).mono ?_; rintro e w6 ⟨rfl, hf6⟩) | fail)
          have HW := Lib.hid ((HR.out.1.trans hf5).trans hf6)
          clear hf5 hf6 m3 m2
          go_roundg (B - i)
          case measure => exact hig
          case rel =>
            refine ⟨i + 1, by go_num, by omega, by omega, by omega, HW.out, fun j h1 h2 => ?_⟩
            by_cases hj : j = i
            · rw [hj, HX.out, hx0]
            · exact HR.out.2 j h1 (by omega)
        · have HV : Hid (tz = false) := by
            show _ = _
            cases htz : tz with
            | false => rfl
            | true => exact absurd (HX.out.symm.trans (HTZ.out.1 htz i (by omega) (by omega) hib)) hx0
          have hxi : ¬ (x : Int) = 0 := by omega
          go_wp2_with (first | (go_at_call 60; refine (at_prog HP.out (HBL.out _)).mono ?_; rintro e w5 ⟨rfl, hf5⟩; have m3 := HM.out w5 hf5) | (go_at_call 69; refine (at_prog HP.out (HB2.out _)).mono ?_; rintro e w6 ⟨rfl, hf6⟩) | fail)
          go_ret
          exact ⟨by rw [HV.out]; rfl, (((HF.out.trans HG.out).trans HR.out.1).trans hf5).trans hf6⟩
  · clear HBT HTZ HBO HR HBL
    go_enter Tryz.func46, Tryz.ntmps46
    have t3 := Tryz.underlying3
    have u3 := Tryz.runUnderlying3
    have g3 := Tryz.isAgg3
    have z3 := Tryz.sizeOf3
    have t4 := Tryz.underlying4
    have u4 := Tryz.runUnderlying4
    have g4 := Tryz.isAgg4
    have z4 := Tryz.sizeOf4
    have t25 := Tryz.underlying25
    have u25 := Tryz.runUnderlying25
    have g25 := Tryz.isAgg25
    have z25 := Tryz.sizeOf25
    have t29 := Tryz.underlying29
    have u29 := Tryz.runUnderlying29
    have g29 := Tryz.isAgg29
    have z29 := Tryz.sizeOf29
    have c68 := Tryz.call68
    have c60 := Tryz.call60
    have c69 := Tryz.call69
    have mixed : Tryz.prog.follows .mixedOrders = true := by kernel_rfl
    obtain ⟨k30, hk30⟩ : ∃ k, k = 17 := ⟨_, rfl⟩
    rw [← hk30] at z25
    have nk30 : ¬ k30 = 0 := by omega
    have HK25 := Lib.hid hk30
    obtain ⟨k40, hk40⟩ : ∃ k, k = 18 := ⟨_, rfl⟩
    rw [← hk40] at z29
    have nk40 : ¬ k40 = 0 := by omega
    have HK29 := Lib.hid hk40
    have hP : Tryz.prog = PD := rfl
    rw [hP] at t3 u3 g3 z3 t4 u4 g4 z4 t25 u25 g25 z25 t29 u29 g29 z29 c68 c60 c69 mixed HLD ⊢
    have HP := Lib.hid hP.symm
    clear hP hk30 hk40
    have hAk : A.size = k30 := by rw [HK25.out]; exact hsz
    have hPk : P.size = k40 := by rw [HK29.out]; exact hPs
    clear hsz hPs
    rw [hw1] at HF HLD
    go_wp2_with fail
    obtain ⟨nb, hnb⟩ : ∃ nb, w.heap.size = nb := ⟨_, rfl⟩
    rw [hnb] at HLD ⊢
    have HSS : Hid (∀ w', Fr No w1 w' → Sem.run PD (loadCellsFrom ⟨nb, 0, none⟩ 0 k30 #[]) w' = .ok A w' ∧ w'.cell? ⟨nb, 17, none⟩ = some (.int .i64 n)) := fun w' hf => ⟨by rw [HK25.out]; exact (HLD.out w' hf).1, (HLD.out w' hf).2⟩
    clear hnb hw1
    have f5 : Fr No w1 w1.drew := Fr.drew No _
    have hS0 := HSS.out _ f5
    refine wp_region_noPanic ?_
    refine wp_region_held_drew (S := (fun w' : World => Sem.run PD (loadCellsFrom ⟨nb, 0, none⟩ 0 k30 #[]) w' = .ok A w' ∧ w'.cell? ⟨nb, 17, none⟩ = some (.int .i64 n))) (by kernel_rfl) hS0 (fun hHeld => ?_)
    refine wpAnyH_take (i := 0) (oi := { dst := some 4, op := Op.fieldAddr 29 (Operand.tmp 1) 0, type := 0, pos := "ref.go:383", after := #[], guard := none }) (v := ?v0a) rfl (by kernel_rfl) (by kernel_rfl) (by kernel_rfl) (fun _ _ _ h => h) (Or.inl ⟨by rfl, ?hy0a⟩) hHeld ?nx0a
    case hy0a => (intro w hSw; (try dsimp only at hSw); go_simp; try with_reducible rfl)
    try simp only [Act.put, List.setIfInBounds_toArray, List.set_cons_zero, List.set_cons_succ]
    refine wpAnyH_take (i := 1) (oi := { dst := some 5, op := Op.load 25 (Operand.tmp 4), type := 25, pos := "ref.go:383", after := #[{ on := 0, ground := Ground.data }], guard := none }) (v := ?v1a) rfl (by kernel_rfl) (by kernel_rfl) (by kernel_rfl) (fun _ _ _ h => h) (Or.inl ⟨by rfl, ?hy1a⟩) hHeld ?nx1a
    case hy1a => (intro w hSw; (try dsimp only at hSw); go_simp; try with_reducible rfl)
    try simp only [Act.put, List.setIfInBounds_toArray, List.set_cons_zero, List.set_cons_succ]
    refine wpAnyH_ready (rs := [2]) (by kernel_rfl) (by simp) ?_
    refine AllReadyH.cons (o := { dst := some 6, op := Op.call { callee := Callee.value (Operand.func 68), args := #[Operand.tmp 5], argTypes := #[25] }, type := 4, pos := "ref.go:383", after := #[{ on := 1, ground := Ground.data }], guard := none }) rfl (fun K hK => ?_) AllReadyH.nil
    go_simp
    go_at_call 68
    refine (at_prog HP.out (HVA.out _)).mono ?_
    rintro e x0 ⟨rfl, h0⟩
    have g0 := f5.trans h0
    have hS := HSS.out _ g0
    clear h0
    refine hK.out _ _ hS (fun hH2 => ?_)
    clear hK K hHeld
    have hHeld := hH2
    clear hH2 hS
    try simp only [Act.put, List.setIfInBounds_toArray, List.set_cons_zero, List.set_cons_succ]
    refine wpAnyH_take (i := 3) (oi := { dst := some 7, op := Op.unOp UnOp.not 4 (Operand.tmp 6), type := 4, pos := "ref.go:383", after := #[{ on := 2, ground := Ground.data }], guard := none }) (v := ?v3a) rfl (by kernel_rfl) (by kernel_rfl) (by kernel_rfl) (fun _ _ _ h => h) (Or.inl ⟨by rfl, ?hy3a⟩) hHeld ?nx3a
    case hy3a => (intro w hSw; (try dsimp only at hSw); go_simp; try with_reducible rfl)
    try simp only [Act.put, List.setIfInBounds_toArray, List.set_cons_zero, List.set_cons_succ]
    refine wpAnyH_take (i := 4) (oi := { dst := some 8, op := Op.move (Operand.tmp 7), type := 4, pos := "ref.go:383", after := #[{ on := 3, ground := Ground.data }, { on := 2, ground := Ground.chain }], guard := none }) (v := ?v4a) rfl (by kernel_rfl) (by kernel_rfl) (by kernel_rfl) (fun _ _ _ h => h) (Or.inl ⟨by rfl, ?hy4a⟩) hHeld ?nx4a
    case hy4a => (intro w hSw; (try dsimp only at hSw); go_simp; try with_reducible rfl)
    try simp only [Act.put, List.setIfInBounds_toArray, List.set_cons_zero, List.set_cons_succ]
    refine wpAnyH_take (i := 5) (oi := { dst := some 9, op := Op.fieldAddr 29 (Operand.tmp 1) 1, type := 0, pos := "ref.go:383", after := #[{ on := 4, ground := Ground.guard }], guard := some (4, false) }) (v := undef) rfl (by kernel_rfl) (by kernel_rfl) (by kernel_rfl) (fun _ _ _ h => h) (Or.inr ⟨by rfl, rfl⟩) hHeld ?nx5a
    try simp only [Act.put, List.setIfInBounds_toArray, List.set_cons_zero, List.set_cons_succ]
    refine wpAnyH_take (i := 6) (oi := { dst := some 10, op := Op.load 3 (Operand.tmp 9), type := 3, pos := "ref.go:383", after := #[{ on := 5, ground := Ground.data }, { on := 4, ground := Ground.guard }], guard := some (4, false) }) (v := undef) rfl (by kernel_rfl) (by kernel_rfl) (by kernel_rfl) (fun _ _ _ h => h) (Or.inr ⟨by rfl, rfl⟩) hHeld ?nx6a
    try simp only [Act.put, List.setIfInBounds_toArray, List.set_cons_zero, List.set_cons_succ]
    refine wpAnyH_take (i := 7) (oi := { dst := some 11, op := Op.binOp BinOp.lss 3 (Operand.tmp 10) (Operand.const (Value.int IntKind.i64 0)) 3, type := 4, pos := "ref.go:383", after := #[{ on := 6, ground := Ground.data }, { on := 4, ground := Ground.guard }], guard := some (4, false) }) (v := undef) rfl (by kernel_rfl) (by kernel_rfl) (by kernel_rfl) (fun _ _ _ h => h) (Or.inr ⟨by rfl, rfl⟩) hHeld ?nx7a
    try simp only [Act.put, List.setIfInBounds_toArray, List.set_cons_zero, List.set_cons_succ]
    refine wpAnyH_take (i := 8) (oi := { dst := some 12, op := Op.pick (Operand.tmp 8) (Operand.const (Value.bool true)) (Operand.tmp 11), type := 4, pos := "ref.go:383", after := #[{ on := 4, ground := Ground.data }, { on := 7, ground := Ground.data }], guard := none }) (v := ?v8a) rfl (by kernel_rfl) (by kernel_rfl) (by kernel_rfl) (fun _ _ _ h => h) (Or.inl ⟨by rfl, ?hy8a⟩) hHeld ?nx8a
    case hy8a => (intro w hSw; (try dsimp only at hSw); go_simp; try with_reducible rfl)
    try simp only [Act.put, List.setIfInBounds_toArray, List.set_cons_zero, List.set_cons_succ]
    refine wpAnyH_take (i := 9) (oi := { dst := some 13, op := Op.move (Operand.tmp 12), type := 4, pos := "ref.go:383", after := #[{ on := 8, ground := Ground.data }, { on := 4, ground := Ground.chain }], guard := none }) (v := ?v9a) rfl (by kernel_rfl) (by kernel_rfl) (by kernel_rfl) (fun _ _ _ h => h) (Or.inl ⟨by rfl, ?hy9a⟩) hHeld ?nx9a
    case hy9a => (intro w hSw; (try dsimp only at hSw); go_simp; try with_reducible rfl)
    try simp only [Act.put, List.setIfInBounds_toArray, List.set_cons_zero, List.set_cons_succ]
    refine wpAnyH_take (i := 10) (oi := { dst := some 14, op := Op.fieldAddr 29 (Operand.tmp 1) 1, type := 0, pos := "ref.go:383", after := #[{ on := 9, ground := Ground.guard }], guard := some (9, false) }) (v := undef) rfl (by kernel_rfl) (by kernel_rfl) (by kernel_rfl) (fun _ _ _ h => h) (Or.inr ⟨by rfl, rfl⟩) hHeld ?nx10a
    try simp only [Act.put, List.setIfInBounds_toArray, List.set_cons_zero, List.set_cons_succ]
    refine wpAnyH_take (i := 11) (oi := { dst := some 15, op := Op.load 3 (Operand.tmp 14), type := 3, pos := "ref.go:383", after := #[{ on := 10, ground := Ground.data }, { on := 9, ground := Ground.guard }], guard := some (9, false) }) (v := undef) rfl (by kernel_rfl) (by kernel_rfl) (by kernel_rfl) (fun _ _ _ h => h) (Or.inr ⟨by rfl, rfl⟩) hHeld ?nx11a
    try simp only [Act.put, List.setIfInBounds_toArray, List.set_cons_zero, List.set_cons_succ]
    refine wpAnyH_take (i := 12) (oi := { dst := some 16, op := Op.fieldAddr 29 (Operand.tmp 1) 0, type := 0, pos := "ref.go:383", after := #[{ on := 9, ground := Ground.guard }], guard := some (9, false) }) (v := undef) rfl (by kernel_rfl) (by kernel_rfl) (by kernel_rfl) (fun _ _ _ h => h) (Or.inr ⟨by rfl, rfl⟩) hHeld ?nx12a
    try simp only [Act.put, List.setIfInBounds_toArray, List.set_cons_zero, List.set_cons_succ]
    refine wpAnyH_take (i := 13) (oi := { dst := some 17, op := Op.load 25 (Operand.tmp 16), type := 25, pos := "ref.go:383", after := #[{ on := 12, ground := Ground.data }, { on := 9, ground := Ground.guard }], guard := some (9, false) }) (v := undef) rfl (by kernel_rfl) (by kernel_rfl) (by kernel_rfl) (fun _ _ _ h => h) (Or.inr ⟨by rfl, rfl⟩) hHeld ?nx13a
    try simp only [Act.put, List.setIfInBounds_toArray, List.set_cons_zero, List.set_cons_succ]
    refine wpAnyH_take (i := 14) (oi := { dst := some 18, op := Op.call { callee := Callee.value (Operand.func 60), args := #[Operand.tmp 17], argTypes := #[25] }, type := 3, pos := "ref.go:383", after := #[{ on := 13, ground := Ground.data }, { on := 9, ground := Ground.chain }, { on := 9, ground := Ground.guard }], guard := some (9, false) }) (v := undef) rfl (by kernel_rfl) (by kernel_rfl) (by kernel_rfl) (fun _ _ _ h => h) (Or.inr ⟨by rfl, rfl⟩) hHeld ?nx14a
    try simp only [Act.put, List.setIfInBounds_toArray, List.set_cons_zero, List.set_cons_succ]
    refine wpAnyH_take (i := 15) (oi := { dst := some 19, op := Op.binOp BinOp.gtr 3 (Operand.tmp 15) (Operand.tmp 18) 3, type := 4, pos := "ref.go:383", after := #[{ on := 11, ground := Ground.data }, { on := 14, ground := Ground.data }, { on := 9, ground := Ground.guard }], guard := some (9, false) }) (v := undef) rfl (by kernel_rfl) (by kernel_rfl) (by kernel_rfl) (fun _ _ _ h => h) (Or.inr ⟨by rfl, rfl⟩) hHeld ?nx15a
    try simp only [Act.put, List.setIfInBounds_toArray, List.set_cons_zero, List.set_cons_succ]
    refine wpAnyH_take (i := 16) (oi := { dst := some 20, op := Op.pick (Operand.tmp 13) (Operand.const (Value.bool true)) (Operand.tmp 19), type := 4, pos := "ref.go:383", after := #[{ on := 9, ground := Ground.data }, { on := 15, ground := Ground.data }], guard := none }) (v := ?v16a) rfl (by kernel_rfl) (by kernel_rfl) (by kernel_rfl) (fun _ _ _ h => h) (Or.inl ⟨by rfl, ?hy16a⟩) hHeld ?nx16a
    case hy16a => (intro w hSw; (try dsimp only at hSw); go_simp; try with_reducible rfl)
    try simp only [Act.put, List.setIfInBounds_toArray, List.set_cons_zero, List.set_cons_succ]
    refine wpAnyH_done (by kernel_rfl) ?_ _
    refine NoPanic.normal ?_
    go_wp2_with fail
    go_ret
    exact ⟨rfl, HF.out.trans g0⟩
  · have q1 : decide (n < 0) = true := decide_eq_true p1
    rw [decide_eq_false (by omega : ¬ 0 ≤ n)]
    clear HBT HTZ HBO HR HBL p1
    go_enter Tryz.func46, Tryz.ntmps46
    have t3 := Tryz.underlying3
    have u3 := Tryz.runUnderlying3
    have g3 := Tryz.isAgg3
    have z3 := Tryz.sizeOf3
    have t4 := Tryz.underlying4
    have u4 := Tryz.runUnderlying4
    have g4 := Tryz.isAgg4
    have z4 := Tryz.sizeOf4
    have t25 := Tryz.underlying25
    have u25 := Tryz.runUnderlying25
    have g25 := Tryz.isAgg25
    have z25 := Tryz.sizeOf25
    have t29 := Tryz.underlying29
    have u29 := Tryz.runUnderlying29
    have g29 := Tryz.isAgg29
    have z29 := Tryz.sizeOf29
    have c68 := Tryz.call68
    have c60 := Tryz.call60
    have c69 := Tryz.call69
    have mixed : Tryz.prog.follows .mixedOrders = true := by kernel_rfl
    obtain ⟨k30, hk30⟩ : ∃ k, k = 17 := ⟨_, rfl⟩
    rw [← hk30] at z25
    have nk30 : ¬ k30 = 0 := by omega
    have HK25 := Lib.hid hk30
    obtain ⟨k40, hk40⟩ : ∃ k, k = 18 := ⟨_, rfl⟩
    rw [← hk40] at z29
    have nk40 : ¬ k40 = 0 := by omega
    have HK29 := Lib.hid hk40
    have hP : Tryz.prog = PD := rfl
    rw [hP] at t3 u3 g3 z3 t4 u4 g4 z4 t25 u25 g25 z25 t29 u29 g29 z29 c68 c60 c69 mixed HLD ⊢
    have HP := Lib.hid hP.symm
    clear hP hk30 hk40
    have hAk : A.size = k30 := by rw [HK25.out]; exact hsz
    have hPk : P.size = k40 := by rw [HK29.out]; exact hPs
    clear hsz hPs
    rw [hw1] at HF HLD
    go_wp2_with fail
    obtain ⟨nb, hnb⟩ : ∃ nb, w.heap.size = nb := ⟨_, rfl⟩
    rw [hnb] at HLD ⊢
    have HSS : Hid (∀ w', Fr No w1 w' → Sem.run PD (loadCellsFrom ⟨nb, 0, none⟩ 0 k30 #[]) w' = .ok A w' ∧ w'.cell? ⟨nb, 17, none⟩ = some (.int .i64 n)) := fun w' hf => ⟨by rw [HK25.out]; exact (HLD.out w' hf).1, (HLD.out w' hf).2⟩
    clear hnb hw1
    have f5 : Fr No w1 w1.drew := Fr.drew No _
    have hS0 := HSS.out _ f5
    refine wp_region_noPanic ?_
    refine wp_region_held_drew (S := (fun w' : World => Sem.run PD (loadCellsFrom ⟨nb, 0, none⟩ 0 k30 #[]) w' = .ok A w' ∧ w'.cell? ⟨nb, 17, none⟩ = some (.int .i64 n))) (by kernel_rfl) hS0 (fun hHeld => ?_)
    refine wpAnyH_take (i := 0) (oi := { dst := some 4, op := Op.fieldAddr 29 (Operand.tmp 1) 0, type := 0, pos := "ref.go:383", after := #[], guard := none }) (v := ?v0b) rfl (by kernel_rfl) (by kernel_rfl) (by kernel_rfl) (fun _ _ _ h => h) (Or.inl ⟨by rfl, ?hy0b⟩) hHeld ?nx0b
    case hy0b => (intro w hSw; (try dsimp only at hSw); go_simp; try with_reducible rfl)
    try simp only [Act.put, List.setIfInBounds_toArray, List.set_cons_zero, List.set_cons_succ]
    refine wpAnyH_take (i := 1) (oi := { dst := some 5, op := Op.load 25 (Operand.tmp 4), type := 25, pos := "ref.go:383", after := #[{ on := 0, ground := Ground.data }], guard := none }) (v := ?v1b) rfl (by kernel_rfl) (by kernel_rfl) (by kernel_rfl) (fun _ _ _ h => h) (Or.inl ⟨by rfl, ?hy1b⟩) hHeld ?nx1b
    case hy1b => (intro w hSw; (try dsimp only at hSw); go_simp; try with_reducible rfl)
    try simp only [Act.put, List.setIfInBounds_toArray, List.set_cons_zero, List.set_cons_succ]
    refine wpAnyH_ready (rs := [2]) (by kernel_rfl) (by simp) ?_
    refine AllReadyH.cons (o := { dst := some 6, op := Op.call { callee := Callee.value (Operand.func 68), args := #[Operand.tmp 5], argTypes := #[25] }, type := 4, pos := "ref.go:383", after := #[{ on := 1, ground := Ground.data }], guard := none }) rfl (fun K hK => ?_) AllReadyH.nil
    go_simp
    go_at_call 68
    refine (at_prog HP.out (HVA.out _)).mono ?_
    rintro e x0 ⟨rfl, h0⟩
    have g0 := f5.trans h0
    have hS := HSS.out _ g0
    clear h0
    refine hK.out _ _ hS (fun hH2 => ?_)
    clear hK K hHeld
    have hHeld := hH2
    clear hH2 hS
    try simp only [Act.put, List.setIfInBounds_toArray, List.set_cons_zero, List.set_cons_succ]
    refine wpAnyH_take (i := 3) (oi := { dst := some 7, op := Op.unOp UnOp.not 4 (Operand.tmp 6), type := 4, pos := "ref.go:383", after := #[{ on := 2, ground := Ground.data }], guard := none }) (v := ?v3b) rfl (by kernel_rfl) (by kernel_rfl) (by kernel_rfl) (fun _ _ _ h => h) (Or.inl ⟨by rfl, ?hy3b⟩) hHeld ?nx3b
    case hy3b => (intro w hSw; (try dsimp only at hSw); go_simp; try with_reducible rfl)
    try simp only [Act.put, List.setIfInBounds_toArray, List.set_cons_zero, List.set_cons_succ]
    refine wpAnyH_take (i := 4) (oi := { dst := some 8, op := Op.move (Operand.tmp 7), type := 4, pos := "ref.go:383", after := #[{ on := 3, ground := Ground.data }, { on := 2, ground := Ground.chain }], guard := none }) (v := ?v4b) rfl (by kernel_rfl) (by kernel_rfl) (by kernel_rfl) (fun _ _ _ h => h) (Or.inl ⟨by rfl, ?hy4b⟩) hHeld ?nx4b
    case hy4b => (intro w hSw; (try dsimp only at hSw); go_simp; try with_reducible rfl)
    try simp only [Act.put, List.setIfInBounds_toArray, List.set_cons_zero, List.set_cons_succ]
    refine wpAnyH_take (i := 5) (oi := { dst := some 9, op := Op.fieldAddr 29 (Operand.tmp 1) 1, type := 0, pos := "ref.go:383", after := #[{ on := 4, ground := Ground.guard }], guard := some (4, false) }) (v := ?v5b) rfl (by kernel_rfl) (by kernel_rfl) (by kernel_rfl) (fun _ _ _ h => h) (Or.inl ⟨by rfl, ?hy5b⟩) hHeld ?nx5b
    case hy5b => (intro w hSw; (try dsimp only at hSw); go_simp; try with_reducible rfl)
    try simp only [Act.put, List.setIfInBounds_toArray, List.set_cons_zero, List.set_cons_succ]
    refine wpAnyH_take (i := 6) (oi := { dst := some 10, op := Op.load 3 (Operand.tmp 9), type := 3, pos := "ref.go:383", after := #[{ on := 5, ground := Ground.data }, { on := 4, ground := Ground.guard }], guard := some (4, false) }) (v := ?v6b) rfl (by kernel_rfl) (by kernel_rfl) (by kernel_rfl) (fun _ _ _ h => h) (Or.inl ⟨by rfl, ?hy6b⟩) hHeld ?nx6b
    case hy6b => (intro w hSw; (try dsimp only at hSw); go_simp; try with_reducible rfl)
    try simp only [Act.put, List.setIfInBounds_toArray, List.set_cons_zero, List.set_cons_succ]
    refine wpAnyH_take (i := 7) (oi := { dst := some 11, op := Op.binOp BinOp.lss 3 (Operand.tmp 10) (Operand.const (Value.int IntKind.i64 0)) 3, type := 4, pos := "ref.go:383", after := #[{ on := 6, ground := Ground.data }, { on := 4, ground := Ground.guard }], guard := some (4, false) }) (v := ?v7b) rfl (by kernel_rfl) (by kernel_rfl) (by kernel_rfl) (fun _ _ _ h => h) (Or.inl ⟨by rfl, ?hy7b⟩) hHeld ?nx7b
    case hy7b => (intro w hSw; (try dsimp only at hSw); go_simp; try with_reducible rfl)
    try simp only [Act.put, List.setIfInBounds_toArray, List.set_cons_zero, List.set_cons_succ]
    refine wpAnyH_take (i := 8) (oi := { dst := some 12, op := Op.pick (Operand.tmp 8) (Operand.const (Value.bool true)) (Operand.tmp 11), type := 4, pos := "ref.go:383", after := #[{ on := 4, ground := Ground.data }, { on := 7, ground := Ground.data }], guard := none }) (v := ?v8b) rfl (by kernel_rfl) (by kernel_rfl) (by kernel_rfl) (fun _ _ _ h => h) (Or.inl ⟨by rfl, ?hy8b⟩) hHeld ?nx8b
    case hy8b => (intro w hSw; (try dsimp only at hSw); go_simp; try with_reducible rfl)
    try simp only [Act.put, List.setIfInBounds_toArray, List.set_cons_zero, List.set_cons_succ]
    refine wpAnyH_take (i := 9) (oi := { dst := some 13, op := Op.move (Operand.tmp 12), type := 4, pos := "ref.go:383", after := #[{ on := 8, ground := Ground.data }, { on := 4, ground := Ground.chain }], guard := none }) (v := ?v9b) rfl (by kernel_rfl) (by kernel_rfl) (by kernel_rfl) (fun _ _ _ h => h) (Or.inl ⟨by rfl, ?hy9b⟩) hHeld ?nx9b
    case hy9b => (intro w hSw; (try dsimp only at hSw); go_simp; try with_reducible rfl)
    try simp only [Act.put, List.setIfInBounds_toArray, List.set_cons_zero, List.set_cons_succ]
    refine wpAnyH_take (i := 10) (oi := { dst := some 14, op := Op.fieldAddr 29 (Operand.tmp 1) 1, type := 0, pos := "ref.go:383", after := #[{ on := 9, ground := Ground.guard }], guard := some (9, false) }) (v := undef) rfl (by kernel_rfl) (by kernel_rfl) (by kernel_rfl) (fun _ _ _ h => h) (Or.inr ⟨by rfl, rfl⟩) hHeld ?nx10b
    try simp only [Act.put, List.setIfInBounds_toArray, List.set_cons_zero, List.set_cons_succ]
    refine wpAnyH_take (i := 11) (oi := { dst := some 15, op := Op.load 3 (Operand.tmp 14), type := 3, pos := "ref.go:383", after := #[{ on := 10, ground := Ground.data }, { on := 9, ground := Ground.guard }], guard := some (9, false) }) (v := undef) rfl (by kernel_rfl) (by kernel_rfl) (by kernel_rfl) (fun _ _ _ h => h) (Or.inr ⟨by rfl, rfl⟩) hHeld ?nx11b
    try simp only [Act.put, List.setIfInBounds_toArray, List.set_cons_zero, List.set_cons_succ]
    refine wpAnyH_take (i := 12) (oi := { dst := some 16, op := Op.fieldAddr 29 (Operand.tmp 1) 0, type := 0, pos := "ref.go:383", after := #[{ on := 9, ground := Ground.guard }], guard := some (9, false) }) (v := undef) rfl (by kernel_rfl) (by kernel_rfl) (by kernel_rfl) (fun _ _ _ h => h) (Or.inr ⟨by rfl, rfl⟩) hHeld ?nx12b
    try simp only [Act.put, List.setIfInBounds_toArray, List.set_cons_zero, List.set_cons_succ]
    refine wpAnyH_take (i := 13) (oi := { dst := some 17, op := Op.load 25 (Operand.tmp 16), type := 25, pos := "ref.go:383", after := #[{ on := 12, ground := Ground.data }, { on := 9, ground := Ground.guard }], guard := some (9, false) }) (v := undef) rfl (by kernel_rfl) (by kernel_rfl) (by kernel_rfl) (fun _ _ _ h => h) (Or.inr ⟨by rfl, rfl⟩) hHeld ?nx13b
    try simp only [Act.put, List.setIfInBounds_toArray, List.set_cons_zero, List.set_cons_succ]
    refine wpAnyH_take (i := 14) (oi := { dst := some 18, op := Op.call { callee := Callee.value (Operand.func 60), args := #[Operand.tmp 17], argTypes := #[25] }, type := 3, pos := "ref.go:383", after := #[{ on := 13, ground := Ground.data }, { on := 9, ground := Ground.chain }, { on := 9, ground := Ground.guard }], guard := some (9, false) }) (v := undef) rfl (by kernel_rfl) (by kernel_rfl) (by kernel_rfl) (fun _ _ _ h => h) (Or.inr ⟨by rfl, rfl⟩) hHeld ?nx14b
    try simp only [Act.put, List.setIfInBounds_toArray, List.set_cons_zero, List.set_cons_succ]
    refine wpAnyH_take (i := 15) (oi := { dst := some 19, op := Op.binOp BinOp.gtr 3 (Operand.tmp 15) (Operand.tmp 18) 3, type := 4, pos := "ref.go:383", after := #[{ on := 11, ground := Ground.data }, { on := 14, ground := Ground.data }, { on := 9, ground := Ground.guard }], guard := some (9, false) }) (v := undef) rfl (by kernel_rfl) (by kernel_rfl) (by kernel_rfl) (fun _ _ _ h => h) (Or.inr ⟨by rfl, rfl⟩) hHeld ?nx15b
    try simp only [Act.put, List.setIfInBounds_toArray, List.set_cons_zero, List.set_cons_succ]
    refine wpAnyH_take (i := 16) (oi := { dst := some 20, op := Op.pick (Operand.tmp 13) (Operand.const (Value.bool true)) (Operand.tmp 19), type := 4, pos := "ref.go:383", after := #[{ on := 9, ground := Ground.data }, { on := 15, ground := Ground.data }], guard := none }) (v := ?v16b) rfl (by kernel_rfl) (by kernel_rfl) (by kernel_rfl) (fun _ _ _ h => h) (Or.inl ⟨by rfl, ?hy16b⟩) hHeld ?nx16b
    case hy16b => (intro w hSw; (try dsimp only at hSw); go_simp; try with_reducible rfl)
    try simp only [Act.put, List.setIfInBounds_toArray, List.set_cons_zero, List.set_cons_succ]
    refine wpAnyH_done (by kernel_rfl) ?_ _
    refine NoPanic.normal ?_
    go_wp2_with fail
    go_ret
    exact ⟨rfl, HF.out.trans g0⟩
  · have q1 : decide (n < 0) = false := decide_eq_false (by omega)
    have q2 : decide (L < n) = true := decide_eq_true p2
    rw [decide_eq_false (by omega : ¬ n ≤ L), Bool.and_false]
    clear HBT HTZ HBO HR p0 p2
    go_enter Tryz.func46, Tryz.ntmps46
    have t3 := Tryz.underlying3
    have u3 := Tryz.runUnderlying3
    have g3 := Tryz.isAgg3
    have z3 := Tryz.sizeOf3
    have t4 := Tryz.underlying4
    have u4 := Tryz.runUnderlying4
    have g4 := Tryz.isAgg4
    have z4 := Tryz.sizeOf4
    have t25 := Tryz.underlying25
    have u25 := Tryz.runUnderlying25
    have g25 := Tryz.isAgg25
    have z25 := Tryz.sizeOf25
    have t29 := Tryz.underlying29
    have u29 := Tryz.runUnderlying29
    have g29 := Tryz.isAgg29
    have z29 := Tryz.sizeOf29
    have c68 := Tryz.call68
    have c60 := Tryz.call60
    have c69 := Tryz.call69
    have mixed : Tryz.prog.follows .mixedOrders = true := by kernel_rfl
    obtain ⟨k30, hk30⟩ : ∃ k, k = 17 := ⟨_, rfl⟩
    rw [← hk30] at z25
    have nk30 : ¬ k30 = 0 := by omega
    have HK25 := Lib.hid hk30
    obtain ⟨k40, hk40⟩ : ∃ k, k = 18 := ⟨_, rfl⟩
    rw [← hk40] at z29
    have nk40 : ¬ k40 = 0 := by omega
    have HK29 := Lib.hid hk40
    have hP : Tryz.prog = PD := rfl
    rw [hP] at t3 u3 g3 z3 t4 u4 g4 z4 t25 u25 g25 z25 t29 u29 g29 z29 c68 c60 c69 mixed HLD ⊢
    have HP := Lib.hid hP.symm
    clear hP hk30 hk40
    have hAk : A.size = k30 := by rw [HK25.out]; exact hsz
    have hPk : P.size = k40 := by rw [HK29.out]; exact hPs
    clear hsz hPs
    rw [hw1] at HF HLD
    go_wp2_with fail
    obtain ⟨nb, hnb⟩ : ∃ nb, w.heap.size = nb := ⟨_, rfl⟩
    rw [hnb] at HLD ⊢
    have HSS : Hid (∀ w', Fr No w1 w' → Sem.run PD (loadCellsFrom ⟨nb, 0, none⟩ 0 k30 #[]) w' = .ok A w' ∧ w'.cell? ⟨nb, 17, none⟩ = some (.int .i64 n)) := fun w' hf => ⟨by rw [HK25.out]; exact (HLD.out w' hf).1, (HLD.out w' hf).2⟩
    clear hnb hw1
    have f5 : Fr No w1 w1.drew := Fr.drew No _
    have hS0 := HSS.out _ f5
    refine wp_region_noPanic ?_
    refine wp_region_held_drew (S := (fun w' : World => Sem.run PD (loadCellsFrom ⟨nb, 0, none⟩ 0 k30 #[]) w' = .ok A w' ∧ w'.cell? ⟨nb, 17, none⟩ = some (.int .i64 n))) (by kernel_rfl) hS0 (fun hHeld => ?_)
    refine wpAnyH_take (i := 0) (oi := { dst := some 4, op := Op.fieldAddr 29 (Operand.tmp 1) 0, type := 0, pos := "ref.go:383", after := #[], guard := none }) (v := ?v0d) rfl (by kernel_rfl) (by kernel_rfl) (by kernel_rfl) (fun _ _ _ h => h) (Or.inl ⟨by rfl, ?hy0d⟩) hHeld ?nx0d
    case hy0d => (intro w hSw; (try dsimp only at hSw); go_simp; try with_reducible rfl)
    try simp only [Act.put, List.setIfInBounds_toArray, List.set_cons_zero, List.set_cons_succ]
    refine wpAnyH_take (i := 1) (oi := { dst := some 5, op := Op.load 25 (Operand.tmp 4), type := 25, pos := "ref.go:383", after := #[{ on := 0, ground := Ground.data }], guard := none }) (v := ?v1d) rfl (by kernel_rfl) (by kernel_rfl) (by kernel_rfl) (fun _ _ _ h => h) (Or.inl ⟨by rfl, ?hy1d⟩) hHeld ?nx1d
    case hy1d => (intro w hSw; (try dsimp only at hSw); go_simp; try with_reducible rfl)
    try simp only [Act.put, List.setIfInBounds_toArray, List.set_cons_zero, List.set_cons_succ]
    refine wpAnyH_ready (rs := [2]) (by kernel_rfl) (by simp) ?_
    refine AllReadyH.cons (o := { dst := some 6, op := Op.call { callee := Callee.value (Operand.func 68), args := #[Operand.tmp 5], argTypes := #[25] }, type := 4, pos := "ref.go:383", after := #[{ on := 1, ground := Ground.data }], guard := none }) rfl (fun K hK => ?_) AllReadyH.nil
    go_simp
    go_at_call 68
    refine (at_prog HP.out (HVA.out _)).mono ?_
    rintro e x0 ⟨rfl, h0⟩
    have g0 := f5.trans h0
    have hS := HSS.out _ g0
    clear h0
    refine hK.out _ _ hS (fun hH2 => ?_)
    clear hK K hHeld
    have hHeld := hH2
    clear hH2 hS
    try simp only [Act.put, List.setIfInBounds_toArray, List.set_cons_zero, List.set_cons_succ]
    refine wpAnyH_take (i := 3) (oi := { dst := some 7, op := Op.unOp UnOp.not 4 (Operand.tmp 6), type := 4, pos := "ref.go:383", after := #[{ on := 2, ground := Ground.data }], guard := none }) (v := ?v3d) rfl (by kernel_rfl) (by kernel_rfl) (by kernel_rfl) (fun _ _ _ h => h) (Or.inl ⟨by rfl, ?hy3d⟩) hHeld ?nx3d
    case hy3d => (intro w hSw; (try dsimp only at hSw); go_simp; try with_reducible rfl)
    try simp only [Act.put, List.setIfInBounds_toArray, List.set_cons_zero, List.set_cons_succ]
    refine wpAnyH_take (i := 4) (oi := { dst := some 8, op := Op.move (Operand.tmp 7), type := 4, pos := "ref.go:383", after := #[{ on := 3, ground := Ground.data }, { on := 2, ground := Ground.chain }], guard := none }) (v := ?v4d) rfl (by kernel_rfl) (by kernel_rfl) (by kernel_rfl) (fun _ _ _ h => h) (Or.inl ⟨by rfl, ?hy4d⟩) hHeld ?nx4d
    case hy4d => (intro w hSw; (try dsimp only at hSw); go_simp; try with_reducible rfl)
    try simp only [Act.put, List.setIfInBounds_toArray, List.set_cons_zero, List.set_cons_succ]
    refine wpAnyH_take (i := 5) (oi := { dst := some 9, op := Op.fieldAddr 29 (Operand.tmp 1) 1, type := 0, pos := "ref.go:383", after := #[{ on := 4, ground := Ground.guard }], guard := some (4, false) }) (v := ?v5d) rfl (by kernel_rfl) (by kernel_rfl) (by kernel_rfl) (fun _ _ _ h => h) (Or.inl ⟨by rfl, ?hy5d⟩) hHeld ?nx5d
    case hy5d => (intro w hSw; (try dsimp only at hSw); go_simp; try with_reducible rfl)
    try simp only [Act.put, List.setIfInBounds_toArray, List.set_cons_zero, List.set_cons_succ]
    refine wpAnyH_take (i := 6) (oi := { dst := some 10, op := Op.load 3 (Operand.tmp 9), type := 3, pos := "ref.go:383", after := #[{ on := 5, ground := Ground.data }, { on := 4, ground := Ground.guard }], guard := some (4, false) }) (v := ?v6d) rfl (by kernel_rfl) (by kernel_rfl) (by kernel_rfl) (fun _ _ _ h => h) (Or.inl ⟨by rfl, ?hy6d⟩) hHeld ?nx6d
    case hy6d => (intro w hSw; (try dsimp only at hSw); go_simp; try with_reducible rfl)
    try simp only [Act.put, List.setIfInBounds_toArray, List.set_cons_zero, List.set_cons_succ]
    refine wpAnyH_take (i := 7) (oi := { dst := some 11, op := Op.binOp BinOp.lss 3 (Operand.tmp 10) (Operand.const (Value.int IntKind.i64 0)) 3, type := 4, pos := "ref.go:383", after := #[{ on := 6, ground := Ground.data }, { on := 4, ground := Ground.guard }], guard := some (4, false) }) (v := ?v7d) rfl (by kernel_rfl) (by kernel_rfl) (by kernel_rfl) (fun _ _ _ h => h) (Or.inl ⟨by rfl, ?hy7d⟩) hHeld ?nx7d
    case hy7d => (intro w hSw; (try dsimp only at hSw); go_simp; try with_reducible rfl)
    try simp only [Act.put, List.setIfInBounds_toArray, List.set_cons_zero, List.set_cons_succ]
    refine wpAnyH_take (i := 8) (oi := { dst := some 12, op := Op.pick (Operand.tmp 8) (Operand.const (Value.bool true)) (Operand.tmp 11), type := 4, pos := "ref.go:383", after := #[{ on := 4, ground := Ground.data }, { on := 7, ground := Ground.data }], guard := none }) (v := ?v8d) rfl (by kernel_rfl) (by kernel_rfl) (by kernel_rfl) (fun _ _ _ h => h) (Or.inl ⟨by rfl, ?hy8d⟩) hHeld ?nx8d
    case hy8d => (intro w hSw; (try dsimp only at hSw); go_simp; try with_reducible rfl)
    try simp only [Act.put, List.setIfInBounds_toArray, List.set_cons_zero, List.set_cons_succ]
    refine wpAnyH_take (i := 9) (oi := { dst := some 13, op := Op.move (Operand.tmp 12), type := 4, pos := "ref.go:383", after := #[{ on := 8, ground := Ground.data }, { on := 4, ground := Ground.chain }], guard := none }) (v := ?v9d) rfl (by kernel_rfl) (by kernel_rfl) (by kernel_rfl) (fun _ _ _ h => h) (Or.inl ⟨by rfl, ?hy9d⟩) hHeld ?nx9d
    case hy9d => (intro w hSw; (try dsimp only at hSw); go_simp; try with_reducible rfl)
    try simp only [Act.put, List.setIfInBounds_toArray, List.set_cons_zero, List.set_cons_succ]
    refine wpAnyH_take (i := 10) (oi := { dst := some 14, op := Op.fieldAddr 29 (Operand.tmp 1) 1, type := 0, pos := "ref.go:383", after := #[{ on := 9, ground := Ground.guard }], guard := some (9, false) }) (v := ?v10d) rfl (by kernel_rfl) (by kernel_rfl) (by kernel_rfl) (fun _ _ _ h => h) (Or.inl ⟨by rfl, ?hy10d⟩) hHeld ?nx10d
    case hy10d => (intro w hSw; (try dsimp only at hSw); go_simp; try with_reducible rfl)
    try simp only [Act.put, List.setIfInBounds_toArray, List.set_cons_zero, List.set_cons_succ]
    refine wpAnyH_take (i := 11) (oi := { dst := some 15, op := Op.load 3 (Operand.tmp 14), type := 3, pos := "ref.go:383", after := #[{ on := 10, ground := Ground.data }, { on := 9, ground := Ground.guard }], guard := some (9, false) }) (v := ?v11d) rfl (by kernel_rfl) (by kernel_rfl) (by kernel_rfl) (fun _ _ _ h => h) (Or.inl ⟨by rfl, ?hy11d⟩) hHeld ?nx11d
    case hy11d => (intro w hSw; (try dsimp only at hSw); go_simp; try with_reducible rfl)
    try simp only [Act.put, List.setIfInBounds_toArray, List.set_cons_zero, List.set_cons_succ]
    refine wpAnyH_take (i := 12) (oi := { dst := some 16, op := Op.fieldAddr 29 (Operand.tmp 1) 0, type := 0, pos := "ref.go:383", after := #[{ on := 9, ground := Ground.guard }], guard := some (9, false) }) (v := ?v12d) rfl (by kernel_rfl) (by kernel_rfl) (by kernel_rfl) (fun _ _ _ h => h) (Or.inl ⟨by rfl, ?hy12d⟩) hHeld ?nx12d
    case hy12d => (intro w hSw; (try dsimp only at hSw); go_simp; try with_reducible rfl)
    try simp only [Act.put, List.setIfInBounds_toArray, List.set_cons_zero, List.set_cons_succ]
    refine wpAnyH_take (i := 13) (oi := { dst := some 17, op := Op.load 25 (Operand.tmp 16), type := 25, pos := "ref.go:383", after := #[{ on := 12, ground := Ground.data }, { on := 9, ground := Ground.guard }], guard := some (9, false) }) (v := ?v13d) rfl (by kernel_rfl) (by kernel_rfl) (by kernel_rfl) (fun _ _ _ h => h) (Or.inl ⟨by rfl, ?hy13d⟩) hHeld ?nx13d
    case hy13d => (intro w hSw; (try dsimp only at hSw); go_simp; try with_reducible rfl)
    try simp only [Act.put, List.setIfInBounds_toArray, List.set_cons_zero, List.set_cons_succ]
    refine wpAnyH_ready (rs := [14]) (by kernel_rfl) (by simp) ?_
    refine AllReadyH.cons (o := { dst := some 18, op := Op.call { callee := Callee.value (Operand.func 60), args := #[Operand.tmp 17], argTypes := #[25] }, type := 3, pos := "ref.go:383", after := #[{ on := 13, ground := Ground.data }, { on := 9, ground := Ground.chain }, { on := 9, ground := Ground.guard }], guard := some (9, false) }) rfl (fun K hK => ?_) AllReadyH.nil
    go_simp
    go_at_call 60
    refine (at_prog HP.out (HBL.out _)).mono ?_
    rintro e x1 ⟨rfl, h1⟩
    have g1 := g0.trans h1
    have hS := HSS.out _ g1
    clear h1
    refine hK.out _ _ hS (fun hH2 => ?_)
    clear hK K hHeld
    have hHeld := hH2
    clear hH2 hS
    try simp only [Act.put, List.setIfInBounds_toArray, List.set_cons_zero, List.set_cons_succ]
    refine wpAnyH_take (i := 15) (oi := { dst := some 19, op := Op.binOp BinOp.gtr 3 (Operand.tmp 15) (Operand.tmp 18) 3, type := 4, pos := "ref.go:383", after := #[{ on := 11, ground := Ground.data }, { on := 14, ground := Ground.data }, { on := 9, ground := Ground.guard }], guard := some (9, false) }) (v := ?v15d) rfl (by kernel_rfl) (by kernel_rfl) (by kernel_rfl) (fun _ _ _ h => h) (Or.inl ⟨by rfl, ?hy15d⟩) hHeld ?nx15d
    case hy15d => (intro w hSw; (try dsimp only at hSw); go_simp; try with_reducible rfl)
    try simp only [Act.put, List.setIfInBounds_toArray, List.set_cons_zero, List.set_cons_succ]
    refine wpAnyH_take (i := 16) (oi := { dst := some 20, op := Op.pick (Operand.tmp 13) (Operand.const (Value.bool true)) (Operand.tmp 19), type := 4, pos := "ref.go:383", after := #[{ on := 9, ground := Ground.data }, { on := 15, ground := Ground.data }], guard := none }) (v := ?v16d) rfl (by kernel_rfl) (by kernel_rfl) (by kernel_rfl) (fun _ _ _ h => h) (Or.inl ⟨by rfl, ?hy16d⟩) hHeld ?nx16d
    case hy16d => (intro w hSw; (try dsimp only at hSw); go_simp; try with_reducible rfl)
    try simp only [Act.put, List.setIfInBounds_toArray, List.set_cons_zero, List.set_cons_succ]
    refine wpAnyH_done (by kernel_rfl) ?_ _
    refine NoPanic.normal ?_
    go_wp2_with fail
    go_ret
    exact ⟨rfl, HF.out.trans g1⟩
end Go.Proofs.YtnadendhboiliaaGreat
namespace Go.Proofs.YtnadendhboiliaaGreat
open Go.ChangeShapes Go.WideShapes Go.ChangeAt Go.RowKit
set_option linter.unusedVariables false

set_option maxHeartbeats 8000000 in
set_option maxRecDepth 100000 in
theorem cont_ref (b c : Bool) (xs ys : List Nat) (n : Int) (hx : Bytes xs) (hy : Bytes ys) (w : World) :
    Calls Tryz.prog 55 #[.agg (pfx b xs n).toArray, .agg (adr c ys).toArray] w fun e w' => e = .returned (.bool (contP b xs n c ys)) ∧ Fr No w w' := by
  obtain ⟨P, hP0, hPb, hP17, hPs, hPA, -⟩ := pfx_letter b xs n hx
  obtain ⟨A, hA, -, hsz, -⟩ := adr_letter b xs hx
  obtain ⟨C, hC, hCc, hszc, -⟩ := adr_letter c ys hy
  have HVP : Hid (∀ w', Calls Tryz.prog 46 #[.agg P] w' fun e w'' => e = .returned (.bool (validP b xs n)) ∧ Fr No w' w'') := fun w' => by rw [← hP0]; exact validp_ref b xs n hx w'
  have HVA : Hid (∀ w', Calls Tryz.prog 68 #[.agg C] w' fun e w'' => e = .returned (.bool (validA c ys)) ∧ Fr No w' w'') := fun w' => by rw [← hC]; exact valid_ref c ys hy w'
  have HB1 : Hid (∀ (i : Nat), (i : Int) < bitsOf b → ∀ w', Calls Tryz.prog 69 #[.agg A, .int .i64 i] w' fun e w'' => e = .returned (.int .i64 (bitX xs i : Nat)) ∧ Fr No w' w'') := fun i hi w' => by rw [← hA]; exact bit_ref b xs i hx hi w'
  have HB2 : Hid (∀ (i : Nat), (i : Int) < bitsOf c → ∀ w', Calls Tryz.prog 69 #[.agg C, .int .i64 i] w' fun e w'' => e = .returned (.int .i64 (bitX ys i : Nat)) ∧ Fr No w' w'') := fun i hi w' => by rw [← hC]; exact bit_ref c ys i hy hi w'
  rw [hP0, hC]
  rw [hA] at hPA
  obtain ⟨b1, b2, hF⟩ := alloc2 w (.cells P 29) (.cells C 25)
  have HF := Lib.hid hF
  have HLD : Hid (∀ w', Fr No ((w.alloc (.cells P 29)).alloc (.cells C 25)) w' → (Sem.run Tryz.prog (loadCellsFrom ⟨w.heap.size, 0, none⟩ 0 18 #[]) w' = .ok P w' ∧ Sem.run Tryz.prog (loadCellsFrom ⟨w.heap.size, 0, none⟩ 0 17 #[]) w' = .ok A w' ∧ Sem.run Tryz.prog (loadCellsFrom ⟨w.heap.size + 1, 0, none⟩ 0 17 #[]) w' = .ok C w') ∧ (w'.cell? ⟨w.heap.size, 0, none⟩ = some (.bool b) ∧ w'.cell? ⟨w.heap.size + 1, 0, none⟩ = some (.bool c) ∧ w'.cell? ⟨w.heap.size, 17, none⟩ = some (.int .i64 n))) := fun w' hf => by
    have k1 := hf.keep b1
    have k2 := hf.keep b2
    exact ⟨⟨load_block k1 hPs (fun j v hv => by simpa using hv), load_block k1 hsz (adr_part hsz hPA), load_block k2 hszc (fun j v hv => by simpa using hv)⟩, by rw [cell_of_row _ _ _ _ _ _ k1]; exact hPb, by rw [cell_of_row _ _ _ _ _ _ k2]; exact hCc, by rw [cell_of_row _ _ _ _ _ _ k1]; exact hP17⟩
  have HR : Hid (contP b xs n c ys = (validP b xs n && validA c ys && decide (b = c) && agree xs ys n)) := rfl
  have HAG : Hid (agree xs ys n = true ↔ ∀ i : Nat, i < 128 → (i : Int) < n → bitX xs i = bitX ys i) := agree_iff
  have HVN : Hid (validP b xs n = true → 0 ≤ n ∧ n ≤ bitsOf b) := fun h => ⟨(validP_parts h).2.1, (validP_parts h).2.2.1⟩
  rw [HR.out]
  clear b1 b2 hF hP0 hP17 hPA hPb hC hCc hA hx hy HR
  generalize agree xs ys n = ag at HAG ⊢
  generalize validP b xs n = vp at HVP HVN ⊢
  generalize validA c ys = va at HVA ⊢
  obtain ⟨w1, hw1⟩ : ∃ w1, (w.alloc (.cells P 29)).alloc (.cells C 25) = w1 := ⟨_, rfl⟩
  have hV : (vp = false) ∨ (vp = true ∧ va = false) ∨ (vp = true ∧ va = true ∧ b ≠ c) ∨ (vp = true ∧ va = true ∧ b = c) := by
    cases vp <;> cases va <;> cases b <;> cases c <;> simp
  rcases hV with rfl | ⟨rfl, rfl⟩ | ⟨rfl, rfl, hbc⟩ | ⟨rfl, rfl, rfl⟩
  · go_enter Tryz.func55, Tryz.ntmps55
    have t3 := Tryz.underlying3
    have u3 := Tryz.runUnderlying3
    have g3 := Tryz.isAgg3
    have z3 := Tryz.sizeOf3
    have t4 := Tryz.underlying4
    have u4 := Tryz.runUnderlying4
    have g4 := Tryz.isAgg4
    have z4 := Tryz.sizeOf4
    have t25 := Tryz.underlying25
    have u25 := Tryz.runUnderlying25
    have g25 := Tryz.isAgg25
    have z25 := Tryz.sizeOf25
    have t29 := Tryz.underlying29
    have u29 := Tryz.runUnderlying29
    have g29 := Tryz.isAgg29
    have z29 := Tryz.sizeOf29
    have c46 := Tryz.call46
    have c68 := Tryz.call68
    have c69 := Tryz.call69
    have mixed : Tryz.prog.follows .mixedOrders = true := by kernel_rfl
    obtain ⟨k30, hk30⟩ : ∃ k, k = 17 := ⟨_, rfl⟩
    rw [← hk30] at z25
    have nk30 : ¬ k30 = 0 := by omega
    have HK25 := Lib.hid hk30
    obtain ⟨k40, hk40⟩ : ∃ k, k = 18 := ⟨_, rfl⟩
    rw [← hk40] at z29
    have nk40 : ¬ k40 = 0 := by omega
    have HK29 := Lib.hid hk40
    have hP : Tryz.prog = PD := rfl
    rw [hP] at t3 u3 g3 z3 t4 u4 g4 z4 t25 u25 g25 z25 t29 u29 g29 z29 c46 c68 c69 mixed HLD ⊢
    have HP := Lib.hid hP.symm
    clear hP hk30 hk40
    have hAk : A.size = k30 := by rw [HK25.out]; exact hsz
    have hCk : C.size = k30 := by rw [HK25.out]; exact hszc
    have hPk : P.size = k40 := by rw [HK29.out]; exact hPs
    clear hsz hPs hszc
    rw [hw1] at HF HLD
    obtain ⟨nb, hnb⟩ : ∃ nb, w.heap.size = nb := ⟨_, rfl⟩
    rw [hnb] at HLD
    have HSS : Hid (∀ w', Fr No w1 w' → (Sem.run PD (loadCellsFrom ⟨nb, 0, none⟩ 0 k40 #[]) w' = .ok P w' ∧ Sem.run PD (loadCellsFrom ⟨nb, 0, none⟩ 0 k30 #[]) w' = .ok A w' ∧ Sem.run PD (loadCellsFrom ⟨nb + 1, 0, none⟩ 0 k30 #[]) w' = .ok C w') ∧ (w'.cell? ⟨nb, 0, none⟩ = some (.bool b) ∧ w'.cell? ⟨nb + 1, 0, none⟩ = some (.bool c) ∧ w'.cell? ⟨nb, 17, none⟩ = some (.int .i64 n))) := fun w' hf => by rw [HK29.out, HK25.out]; exact HLD.out w' hf
    have s0 := (HSS.out w1 (Fr.refl _ _)).1.1
    go_wp2_with (first | (go_at_call 46; refine (at_prog HP.out (HVP.out _)).mono ?_; rintro e w2 ⟨rfl, hf2⟩; have s1 := (HSS.out w2 hf2).1.2.2) | fail)
    go_ret
    exact ⟨rfl, HF.out.trans hf2⟩
  · go_enter Tryz.func55, Tryz.ntmps55
    have t3 := Tryz.underlying3
    have u3 := Tryz.runUnderlying3
    have g3 := Tryz.isAgg3
    have z3 := Tryz.sizeOf3
    have t4 := Tryz.underlying4
    have u4 := Tryz.runUnderlying4
    have g4 := Tryz.isAgg4
    have z4 := Tryz.sizeOf4
    have t25 := Tryz.underlying25
    have u25 := Tryz.runUnderlying25
    have g25 := Tryz.isAgg25
    have z25 := Tryz.sizeOf25
    have t29 := Tryz.underlying29
    have u29 := Tryz.runUnderlying29
    have g29 := Tryz.isAgg29
    have z29 := Tryz.sizeOf29
    have c46 := Tryz.call46
    have c68 := Tryz.call68
    have c69 := Tryz.call69
    have mixed : Tryz.prog.follows .mixedOrders = true := by kernel_rfl
    obtain ⟨k30, hk30⟩ : ∃ k, k = 17 := ⟨_, rfl⟩
    rw [← hk30] at z25
    have nk30 : ¬ k30 = 0 := by omega
    have HK25 := Lib.hid hk30
    obtain ⟨k40, hk40⟩ : ∃ k, k = 18 := ⟨_, rfl⟩
    rw [← hk40] at z29
    have nk40 : ¬ k40 = 0 := by omega
    have HK29 := Lib.hid hk40
    have hP : Tryz.prog = PD := rfl
    rw [hP] at t3 u3 g3 z3 t4 u4 g4 z4 t25 u25 g25 z25 t29 u29 g29 z29 c46 c68 c69 mixed HLD ⊢
    have HP := Lib.hid hP.symm
    clear hP hk30 hk40
    have hAk : A.size = k30 := by rw [HK25.out]; exact hsz
    have hCk : C.size = k30 := by rw [HK25.out]; exact hszc
    have hPk : P.size = k40 := by rw [HK29.out]; exact hPs
    clear hsz hPs hszc
    rw [hw1] at HF HLD
    obtain ⟨nb, hnb⟩ : ∃ nb, w.heap.size = nb := ⟨_, rfl⟩
    rw [hnb] at HLD
    have HSS : Hid (∀ w', Fr No w1 w' → (Sem.run PD (loadCellsFrom ⟨nb, 0, none⟩ 0 k40 #[]) w' = .ok P w' ∧ Sem.run PD (loadCellsFrom ⟨nb, 0, none⟩ 0 k30 #[]) w' = .ok A w' ∧ Sem.run PD (loadCellsFrom ⟨nb + 1, 0, none⟩ 0 k30 #[]) w' = .ok C w') ∧ (w'.cell? ⟨nb, 0, none⟩ = some (.bool b) ∧ w'.cell? ⟨nb + 1, 0, none⟩ = some (.bool c) ∧ w'.cell? ⟨nb, 17, none⟩ = some (.int .i64 n))) := fun w' hf => by rw [HK29.out, HK25.out]; exact HLD.out w' hf
    have s0 := (HSS.out w1 (Fr.refl _ _)).1.1
    go_wp2_with (first | (go_at_call 46; refine (at_prog HP.out (HVP.out _)).mono ?_; rintro e w2 ⟨rfl, hf2⟩; have s1 := (HSS.out w2 hf2).1.2.2) | (go_at_call 68; refine (at_prog HP.out (HVA.out _)).mono ?_; rintro e w3 ⟨rfl, hf3⟩; have s2 := (HSS.out w3 (hf2.trans hf3)).2.1; have s3 := (HSS.out w3 (hf2.trans hf3)).2.2.1) | fail)
    go_ret
    exact ⟨rfl, (HF.out.trans hf2).trans hf3⟩
  · rw [decide_eq_false hbc]
    go_enter Tryz.func55, Tryz.ntmps55
    have t3 := Tryz.underlying3
    have u3 := Tryz.runUnderlying3
    have g3 := Tryz.isAgg3
    have z3 := Tryz.sizeOf3
    have t4 := Tryz.underlying4
    have u4 := Tryz.runUnderlying4
    have g4 := Tryz.isAgg4
    have z4 := Tryz.sizeOf4
    have t25 := Tryz.underlying25
    have u25 := Tryz.runUnderlying25
    have g25 := Tryz.isAgg25
    have z25 := Tryz.sizeOf25
    have t29 := Tryz.underlying29
    have u29 := Tryz.runUnderlying29
    have g29 := Tryz.isAgg29
    have z29 := Tryz.sizeOf29
    have c46 := Tryz.call46
    have c68 := Tryz.call68
    have c69 := Tryz.call69
    have mixed : Tryz.prog.follows .mixedOrders = true := by kernel_rfl
    obtain ⟨k30, hk30⟩ : ∃ k, k = 17 := ⟨_, rfl⟩
    rw [← hk30] at z25
    have nk30 : ¬ k30 = 0 := by omega
    have HK25 := Lib.hid hk30
    obtain ⟨k40, hk40⟩ : ∃ k, k = 18 := ⟨_, rfl⟩
    rw [← hk40] at z29
    have nk40 : ¬ k40 = 0 := by omega
    have HK29 := Lib.hid hk40
    have hP : Tryz.prog = PD := rfl
    rw [hP] at t3 u3 g3 z3 t4 u4 g4 z4 t25 u25 g25 z25 t29 u29 g29 z29 c46 c68 c69 mixed HLD ⊢
    have HP := Lib.hid hP.symm
    clear hP hk30 hk40
    have hAk : A.size = k30 := by rw [HK25.out]; exact hsz
    have hCk : C.size = k30 := by rw [HK25.out]; exact hszc
    have hPk : P.size = k40 := by rw [HK29.out]; exact hPs
    clear hsz hPs hszc
    rw [hw1] at HF HLD
    obtain ⟨nb, hnb⟩ : ∃ nb, w.heap.size = nb := ⟨_, rfl⟩
    rw [hnb] at HLD
    have HSS : Hid (∀ w', Fr No w1 w' → (Sem.run PD (loadCellsFrom ⟨nb, 0, none⟩ 0 k40 #[]) w' = .ok P w' ∧ Sem.run PD (loadCellsFrom ⟨nb, 0, none⟩ 0 k30 #[]) w' = .ok A w' ∧ Sem.run PD (loadCellsFrom ⟨nb + 1, 0, none⟩ 0 k30 #[]) w' = .ok C w') ∧ (w'.cell? ⟨nb, 0, none⟩ = some (.bool b) ∧ w'.cell? ⟨nb + 1, 0, none⟩ = some (.bool c) ∧ w'.cell? ⟨nb, 17, none⟩ = some (.int .i64 n))) := fun w' hf => by rw [HK29.out, HK25.out]; exact HLD.out w' hf
    have s0 := (HSS.out w1 (Fr.refl _ _)).1.1
    have hbq : (b == c) = false := by simpa using hbc
    go_wp2_with (first | (go_at_call 46; refine (at_prog HP.out (HVP.out _)).mono ?_; rintro e w2 ⟨rfl, hf2⟩; have s1 := (HSS.out w2 hf2).1.2.2) | (go_at_call 68; refine (at_prog HP.out (HVA.out _)).mono ?_; rintro e w3 ⟨rfl, hf3⟩; have s2 := (HSS.out w3 (hf2.trans hf3)).2.1; have s3 := (HSS.out w3 (hf2.trans hf3)).2.2.1) | fail)
    go_ret
    exact ⟨rfl, (HF.out.trans hf2).trans hf3⟩
  · obtain ⟨k, rfl⟩ : ∃ k : Nat, n = k := ⟨n.toNat, by have := HVN.out rfl; omega⟩
    obtain ⟨B, hB⟩ : ∃ B : Nat, bitsOf b = B := ⟨(bitsOf b).toNat, by have := bitsOf_le b; omega⟩
    have hkB : k ≤ B := by have := HVN.out rfl; omega
    have hB128 : B ≤ 128 := by have := bitsOf_le b; omega
    rw [hB] at HB1 HB2
    clear hB HVN
    rw [decide_eq_true rfl]
    go_enter Tryz.func55, Tryz.ntmps55
    have t3 := Tryz.underlying3
    have u3 := Tryz.runUnderlying3
    have g3 := Tryz.isAgg3
    have z3 := Tryz.sizeOf3
    have t4 := Tryz.underlying4
    have u4 := Tryz.runUnderlying4
    have g4 := Tryz.isAgg4
    have z4 := Tryz.sizeOf4
    have t25 := Tryz.underlying25
    have u25 := Tryz.runUnderlying25
    have g25 := Tryz.isAgg25
    have z25 := Tryz.sizeOf25
    have t29 := Tryz.underlying29
    have u29 := Tryz.runUnderlying29
    have g29 := Tryz.isAgg29
    have z29 := Tryz.sizeOf29
    have c46 := Tryz.call46
    have c68 := Tryz.call68
    have c69 := Tryz.call69
    have mixed : Tryz.prog.follows .mixedOrders = true := by kernel_rfl
    obtain ⟨k30, hk30⟩ : ∃ k, k = 17 := ⟨_, rfl⟩
    rw [← hk30] at z25
    have nk30 : ¬ k30 = 0 := by omega
    have HK25 := Lib.hid hk30
    obtain ⟨k40, hk40⟩ : ∃ k, k = 18 := ⟨_, rfl⟩
    rw [← hk40] at z29
    have nk40 : ¬ k40 = 0 := by omega
    have HK29 := Lib.hid hk40
    have hP : Tryz.prog = PD := rfl
    rw [hP] at t3 u3 g3 z3 t4 u4 g4 z4 t25 u25 g25 z25 t29 u29 g29 z29 c46 c68 c69 mixed HLD ⊢
    have HP := Lib.hid hP.symm
    clear hP hk30 hk40
    have hAk : A.size = k30 := by rw [HK25.out]; exact hsz
    have hCk : C.size = k30 := by rw [HK25.out]; exact hszc
    have hPk : P.size = k40 := by rw [HK29.out]; exact hPs
    clear hsz hPs hszc
    rw [hw1] at HF HLD
    obtain ⟨nb, hnb⟩ : ∃ nb, w.heap.size = nb := ⟨_, rfl⟩
    rw [hnb] at HLD
    have HSS : Hid (∀ w', Fr No w1 w' → (Sem.run PD (loadCellsFrom ⟨nb, 0, none⟩ 0 k40 #[]) w' = .ok P w' ∧ Sem.run PD (loadCellsFrom ⟨nb, 0, none⟩ 0 k30 #[]) w' = .ok A w' ∧ Sem.run PD (loadCellsFrom ⟨nb + 1, 0, none⟩ 0 k30 #[]) w' = .ok C w') ∧ (w'.cell? ⟨nb, 0, none⟩ = some (.bool b) ∧ w'.cell? ⟨nb + 1, 0, none⟩ = some (.bool b) ∧ w'.cell? ⟨nb, 17, none⟩ = some (.int .i64 k))) := fun w' hf => by rw [HK29.out, HK25.out]; exact HLD.out w' hf
    have s0 := (HSS.out w1 (Fr.refl _ _)).1.1
    have hbq : (b == b) = true := by simp
    go_wp2_with (first | (go_at_call 46; refine (at_prog HP.out (HVP.out _)).mono ?_; rintro e w2 ⟨rfl, hf2⟩; have s1 := (HSS.out w2 hf2).1.2.2) | (go_at_call 68; refine (at_prog HP.out (HVA.out _)).mono ?_; rintro e w3 ⟨rfl, hf3⟩; have s2 := (HSS.out w3 (hf2.trans hf3)).2.1; have s3 := (HSS.out w3 (hf2.trans hf3)).2.2.1) | fail)
    have HG := Lib.hid (hf2.trans hf3)
    clear hf2 hf3 s0 s1 s2 s3
    go_loopg [5] (k + 1) (fun g s wr => ∃ i : Nat, s = .int .i64 i ∧ i ≤ k ∧ k - i < g ∧ Hid (Fr No w3 wr ∧ ∀ j : Nat, j < i → bitX xs j = bitX ys j))
    case atStart => exact ⟨0, by go_num, Nat.zero_le _, by omega, Fr.refl _ _, fun j h => by omega⟩
    case round =>
      obtain ⟨i, rfl, hik, hig, HR⟩ := hrel
      have HM : Hid (∀ w', Fr No wr w' → (Sem.run PD (loadCellsFrom ⟨nb, 0, none⟩ 0 k30 #[]) w' = .ok A w' ∧ Sem.run PD (loadCellsFrom ⟨nb + 1, 0, none⟩ 0 k30 #[]) w' = .ok C w') ∧ w'.cell? ⟨nb, 17, none⟩ = some (.int .i64 k)) := fun w' hf => by
        have h := HSS.out w' ((HG.out.trans HR.out.1).trans hf)
        exact ⟨⟨h.1.2.1, h.1.2.2⟩, h.2.2.2⟩
      have n1 := (HM.out wr (Fr.refl _ _)).2
      by_cases hi : i = k
      · have HV : Hid (ag = true) := HAG.out.2 fun j h1 h2 => HR.out.2 j (by omega)
        have hib : ¬ (i : Int) < (k : Int) := by omega
        go_wp2_with fail
        go_ret
        exact ⟨by rw [HV.out]; rfl, (HF.out.trans HG.out).trans HR.out.1⟩
      · have hib : (i : Int) < (k : Int) := by omega
        have HC1 := Lib.hid (HB1.out i (by omega))
        have HC2 := Lib.hid (HB2.out i (by omega))
        have hx2 := bitX_lt xs i
        have hy2 := bitX_lt ys i
        obtain ⟨x, hx⟩ : ∃ x, bitX xs i = x := ⟨_, rfl⟩
        obtain ⟨y, hy⟩ : ∃ y, bitX ys i = y := ⟨_, rfl⟩
        rw [hx] at HC1 hx2
        rw [hy] at HC2 hy2
        have HX := Lib.hid (And.intro hx hy)
        clear hx hy
        go_wp2_with fail
        have f5 : Fr No wr wr.drew := Fr.drew No _
        have m := (HM.out _ f5).1
        go_region_held3 (fun w' => Sem.run PD (loadCellsFrom ⟨nb, 0, none⟩ 0 k30 #[]) w' = .ok A w' ∧ Sem.run PD (loadCellsFrom ⟨nb + 1, 0, none⟩ 0 k30 #[]) w' = .ok C w') (first | assumption | (constructor <;> assumption)) (first | (go_at_call 69; with_reducible refine (at_prog HP.out (HC1.out wr.drew)).mono ?_; rintro e x0 ⟨rfl, h0⟩; have g0 := f5.trans h0; have m0 := (HM.out _ g0).1; clear h0) | (go_at_call 69; with_reducible refine (at_prog HP.out (HC2.out wr.drew)).mono ?_; rintro e x1 ⟨rfl, h1⟩; have g1 := f5.trans h1; have m1 := (HM.out _ g1).1; clear h1) | (go_at_call 69; with_reducible refine (at_prog HP.out (HC2.out x0)).mono ?_; rintro e x2 ⟨rfl, h2⟩; have g2 := g0.trans h2; have m2 := (HM.out _ g2).1; clear h2) | (go_at_call 69; with_reducible refine (at_prog HP.out (HC1.out x1)).mono ?_; rintro e x2 ⟨rfl, h2⟩; have g2 := g1.trans h2; have m2 := (HM.out _ g2).1; clear h2))
        all_goals (
          have HW := Lib.hid g2
          by_cases hxy : x = y
          · subst hxy
            have hq : ((x : Int) != (x : Int)) = false := by simp
            go_wp2_with fail
            go_roundg (k - i)
            case measure => exact hig
            case rel =>
              refine ⟨i + 1, by go_num, by omega, by omega, HR.out.1.trans HW.out, fun j h => ?_⟩
              by_cases hj : j = i
              · rw [hj, HX.out.1, HX.out.2]
              · exact HR.out.2 j (by omega)
          · have HV : Hid (ag = false) := by
              show _ = _
              cases hag : ag with
              | false => rfl
              | true => exact absurd ((HX.out.1.symm.trans (HAG.out.1 hag i (by omega) hib)).trans HX.out.2) hxy
            have hq : ((x : Int) != (y : Int)) = true := by simp; omega
            go_wp2_with fail
            go_ret
            exact ⟨by rw [HV.out]; rfl, ((HF.out.trans HG.out).trans HR.out.1).trans HW.out⟩)

end Go.Proofs.YtnadendhboiliaaGreat
namespace Go.Proofs.YtnadendhboiliaaGreat
open Go.ChangeShapes Go.WideShapes Go.ChangeAt Go.RowKit
set_option linter.unusedVariables false

def cmpI (p q : Int) : Int := if p < q then -1 else if q < p then 1 else 0
/-- How two prefixes compare. -/
def cmpP (b c : Bool) (xs ys : List Nat) (n m : Int) : Int := if cmpA b c xs ys = 0 then cmpI n m else cmpA b c xs ys

end Go.Proofs.YtnadendhboiliaaGreat
namespace Go.Proofs.YtnadendhboiliaaGreat
open Go.ChangeShapes Go.WideShapes Go.ChangeAt Go.RowKit
set_option linter.unusedVariables false

theorem cmpN_refl : ∀ l : List Nat, cmpN l l = 0
  | [] => rfl
  | a :: l => by rw [cmpN, if_neg (Nat.lt_irrefl _), if_neg (Nat.lt_irrefl _), cmpN_refl l]
theorem cmpN_anti : ∀ l m : List Nat, cmpN m l = -cmpN l m
  | [], [] => rfl
  | [], _ :: _ => rfl
  | _ :: _, [] => rfl
  | a :: l, b :: m => by
    rw [cmpN, cmpN]
    by_cases h1 : a < b
    · have h2 : ¬ b < a := by omega
      simp [h1, h2]
    · by_cases h2 : b < a
      · simp [h1, h2]
      · simp only [if_neg h1, if_neg h2]
        exact cmpN_anti l m
theorem cmpN_zero : ∀ {l m : List Nat}, cmpN l m = 0 → l = m
  | [], [], _ => rfl
  | [], _ :: _, h => by cases h
  | _ :: _, [], h => by cases h
  | a :: l, b :: m, h => by
    rw [cmpN] at h
    by_cases h1 : a < b
    · rw [if_pos h1] at h; cases h
    · rw [if_neg h1] at h
      by_cases h2 : b < a
      · rw [if_pos h2] at h; cases h
      · rw [if_neg h2] at h
        rw [cmpN_zero h, show a = b by omega]
theorem cmpN_three (l m : List Nat) : cmpN l m = -1 ∨ cmpN l m = 0 ∨ cmpN l m = 1 := by
  induction l generalizing m with
  | nil => cases m <;> simp [cmpN]
  | cons a l ih =>
    cases m with
    | nil => simp [cmpN]
    | cons b m =>
      rw [cmpN]
      split
      · exact .inl rfl
      · split
        · exact .inr (.inr rfl)
        · exact ih m
theorem cmpN_trans : ∀ {l m k : List Nat}, cmpN l m = -1 → cmpN m k = -1 → cmpN l k = -1
  | [], _, [], h1, h2 => by
    rename_i m
    cases m with
    | nil => cases h1
    | cons b m => cases h2
  | [], _, _ :: _, _, _ => rfl
  | _ :: _, [], _, h1, _ => by cases h1
  | _ :: _, _ :: _, [], _, h2 => by cases h2
  | a :: l, b :: m, c :: k, h1, h2 => by
    rw [cmpN] at h1 h2 ⊢
    by_cases hab : a < b
    · by_cases hbc : b < c
      · rw [if_pos (by omega)]
      · rw [if_neg hbc] at h2
        by_cases hcb : c < b
        · rw [if_pos hcb] at h2; cases h2
        · rw [if_pos (by omega)]
    · rw [if_neg hab] at h1
      by_cases hba : b < a
      · rw [if_pos hba] at h1; cases h1
      · rw [if_neg hba] at h1
        by_cases hbc : b < c
        · rw [if_pos (by omega)]
        · rw [if_neg hbc] at h2
          by_cases hcb : c < b
          · rw [if_pos hcb] at h2; cases h2
          · rw [if_neg hcb] at h2
            rw [if_neg (by omega), if_neg (by omega)]
            exact cmpN_trans h1 h2
/-- The order of two prefixes. -/
def cmpX (p q : Px) : Int := cmpP p.b q.b p.xs q.xs p.n q.n
def Lt (p q : Px) : Prop := cmpX p q = -1
theorem cmpX_self (p : Px) : cmpX p p = 0 := by
  unfold cmpX cmpP cmpA
  rw [if_pos rfl, cmpN_refl, if_pos rfl, cmpI, if_neg (Int.lt_irrefl _), if_neg (Int.lt_irrefl _)]
theorem cmpA_cases (b c : Bool) (xs ys : List Nat) : cmpA b c xs ys = -1 ∨ (b = c ∧ xs = ys ∧ cmpA b c xs ys = 0) ∨ cmpA b c xs ys = 1 := by
  unfold cmpA
  by_cases h : b = c
  · rw [if_pos h]
    rcases cmpN_three xs ys with h1 | h1 | h1
    · exact .inl h1
    · exact .inr (.inl ⟨h, cmpN_zero h1, h1⟩)
    · exact .inr (.inr h1)
  · rw [if_neg h]
    cases c
    · exact .inr (.inr rfl)
    · exact .inl rfl
theorem lt_iff {p q : Px} : Lt p q ↔ cmpA p.b q.b p.xs q.xs = -1 ∨ (p.b = q.b ∧ p.xs = q.xs ∧ p.n < q.n) := by
  unfold Lt cmpX cmpP
  rcases cmpA_cases p.b q.b p.xs q.xs with h | ⟨h1, h2, h⟩ | h
  · rw [h, if_neg (by decide)]; simp
  · rw [h, if_pos rfl]
    unfold cmpI
    by_cases hn : p.n < q.n
    · rw [if_pos hn]; simp [h1, h2, hn]
    · rw [if_neg hn]
      split <;> simp [hn]
  · rw [h, if_neg (by decide)]
    constructor
    · intro hc; cases hc
    · rintro (hc | ⟨h1, h2, _⟩)
      · cases hc
      · unfold cmpA at h
        rw [if_pos h1, h2, cmpN_refl] at h
        cases h
theorem cmpX_cases (p q : Px) : Lt p q ∨ p = q ∨ (Lt q p ∧ cmpX p q = 1) := by
  unfold Lt cmpX cmpP
  rcases cmpA_cases p.b q.b p.xs q.xs with h | ⟨h1, h2, h⟩ | h
  · exact .inl (by rw [h]; rfl)
  · rw [h, if_pos rfl]
    have h' : cmpA q.b p.b q.xs p.xs = 0 := by unfold cmpA; rw [if_pos h1.symm, h2, cmpN_refl]
    rw [h', if_pos rfl]
    unfold cmpI
    by_cases hn : p.n < q.n
    · exact .inl (by rw [if_pos hn])
    · by_cases hm : q.n < p.n
      · exact .inr (.inr ⟨by rw [if_pos hm], by rw [if_neg hn, if_pos hm]⟩)
      · exact .inr (.inl (Px.ext' h1 h2 (by omega)))
  · refine .inr (.inr ⟨?_, by rw [h]; rfl⟩)
    have h' : cmpA q.b p.b q.xs p.xs = -1 := by
      unfold cmpA at h ⊢
      by_cases hb : p.b = q.b
      · rw [if_pos hb] at h
        rw [if_pos hb.symm, cmpN_anti, h]
      · rw [if_neg hb] at h
        rw [if_neg (fun hc => hb hc.symm)]
        cases hq : q.b
        · rw [hq] at hb
          cases hp : p.b
          · rw [hp] at hb; exact absurd rfl hb
          · rfl
        · rw [hq] at h; cases h
    rw [h']; rfl
theorem lt_irr (p : Px) : ¬ Lt p p := by intro h; unfold Lt at h; rw [cmpX_self] at h; cases h
theorem lt_trans {p q r : Px} (h1 : Lt p q) (h2 : Lt q r) : Lt p r := by
  rw [lt_iff] at h1 h2 ⊢
  rcases h1 with h1 | ⟨a1, a2, a3⟩
  · rcases h2 with h2 | ⟨b1, b2, b3⟩
    · left
      unfold cmpA at h1 h2 ⊢
      by_cases e1 : p.b = q.b
      · rw [if_pos e1] at h1
        by_cases e2 : q.b = r.b
        · rw [if_pos e2] at h2
          rw [if_pos (e1.trans e2)]
          exact cmpN_trans h1 h2
        · rw [if_neg e2] at h2
          rw [if_neg (by rw [e1]; exact e2)]; exact h2
      · rw [if_neg e1] at h1
        by_cases e2 : q.b = r.b
        · rw [if_neg (by rw [← e2]; exact e1), ← e2]; exact h1
        · rw [if_neg e2] at h2
          cases hq : q.b
          · rw [hq] at h1; cases h1
          · cases hr : r.b
            · rw [hr] at h2; cases h2
            · rw [hq, hr] at e2; exact absurd rfl e2
    · left; rw [← b1, ← b2]; exact h1
  · rcases h2 with h2 | ⟨b1, b2, b3⟩
    · left; rw [a1, a2]; exact h2
    · right; exact ⟨a1.trans b1, a2.trans b2, by omega⟩
theorem lt_asymm {p q : Px} (h1 : Lt p q) (h2 : Lt q p) : False := lt_irr p (lt_trans h1 h2)

/-- Bytes that agree on their high bits compare by the next. -/
theorem byte_lt {x y m : Nat} (hx : x < 256) (hy : y < 256) (hm : m < 8) (h : ∀ j, m < j → j < 8 → x / 2 ^ j % 2 = y / 2 ^ j % 2) (h0 : x / 2 ^ m % 2 = 0) (h1 : y / 2 ^ m % 2 = 1) : x < y := by
  have hd : x / 2 ^ (m + 1) = y / 2 ^ (m + 1) := byte_ext (Nat.lt_of_le_of_lt (Nat.div_le_self _ _) hx) (Nat.lt_of_le_of_lt (Nat.div_le_self _ _) hy) fun j hj => by
    rw [Nat.div_div_eq_div_mul, Nat.div_div_eq_div_mul, ← Nat.pow_add]
    by_cases hk : m + 1 + j < 8
    · exact h _ (by omega) hk
    · have hp : 2 ^ 8 ≤ 2 ^ (m + 1 + j) := Nat.pow_le_pow_right (by decide) (by omega)
      rw [Nat.div_eq_of_lt (Nat.lt_of_lt_of_le hx hp), Nat.div_eq_of_lt (Nat.lt_of_lt_of_le hy hp)]
  have d1 := Nat.div_add_mod x (2 ^ (m + 1))
  have d2 := Nat.div_add_mod y (2 ^ (m + 1))
  rw [Nat.mod_pow_succ, h0] at d1
  rw [Nat.mod_pow_succ, h1] at d2
  rw [hd] at d1
  have hl : x % 2 ^ m < 2 ^ m := Nat.mod_lt _ (Nat.pow_pos (by decide))
  generalize 2 ^ (m + 1) * (y / 2 ^ (m + 1)) = q at d1 d2
  generalize x % 2 ^ m = a at d1 hl
  generalize y % 2 ^ m = c at d2
  omega
theorem cmpN_first : ∀ {xs ys : List Nat} {j x y : Nat}, (∀ i, i < j → xs[i]? = ys[i]?) → xs[j]? = some x → ys[j]? = some y → x < y → cmpN xs ys = -1
  | [], _, j, x, y, _, hx, _, _ => by cases hx
  | _ :: _, [], j, x, y, _, _, hy, _ => by cases hy
  | a :: l, b :: m, 0, x, y, _, hx, hy, hlt => by
    obtain rfl : a = x := by simpa using hx
    obtain rfl : b = y := by simpa using hy
    rw [cmpN, if_pos hlt]
  | a :: l, b :: m, j + 1, x, y, h, hx, hy, hlt => by
    obtain rfl : a = b := by simpa using h 0 (by omega)
    rw [cmpN, if_neg (Nat.lt_irrefl _), if_neg (Nat.lt_irrefl _)]
    exact cmpN_first (j := j) (fun i hi => by simpa using h (i + 1) (by omega)) (by simpa using hx) (by simpa using hy) hlt
/-- Bytes compare by the first bit in which they differ. -/
theorem cmpN_bits {xs ys : List Nat} (hx : Bytes xs) (hy : Bytes ys) {k : Nat} (hk : k < 128) (h : ∀ i, i < k → bitX xs i = bitX ys i) (h0 : bitX xs k = 0) (h1 : bitX ys k = 1) : cmpN xs ys = -1 := by
  have gx : ∀ i, i < 16 → xs[i]? = some (xs.getD i 0) := fun i hi => by
    rw [List.getD_eq_getElem?_getD, List.getElem?_eq_getElem (by rw [hx.1]; exact hi)]; rfl
  have gy : ∀ i, i < 16 → ys[i]? = some (ys.getD i 0) := fun i hi => by
    rw [List.getD_eq_getElem?_getD, List.getElem?_eq_getElem (by rw [hy.1]; exact hi)]; rfl
  refine cmpN_first (j := k / 8) (fun i hi => ?_) (gx _ (by omega)) (gy _ (by omega)) ?_
  · rw [gx i (by omega), gy i (by omega)]
    refine congrArg some (byte_ext (getD_lt hx.2 _) (getD_lt hy.2 _) fun m hm => ?_)
    have := h (8 * i + (7 - m)) (by omega)
    unfold bitX at this
    rw [show (8 * i + (7 - m)) / 8 = i by omega, show 7 - (8 * i + (7 - m)) % 8 = m by omega] at this
    exact this
  · refine byte_lt (m := 7 - k % 8) (getD_lt hx.2 _) (getD_lt hy.2 _) (by omega) (fun j hj hj8 => ?_) h0 h1
    have := h (8 * (k / 8) + (7 - j)) (by omega)
    unfold bitX at this
    rw [show (8 * (k / 8) + (7 - j)) / 8 = k / 8 by omega, show 7 - (8 * (k / 8) + (7 - j)) % 8 = j by omega] at this
    exact this
theorem first_bit (xs ys : List Nat) : ∀ m : Nat, (∀ i, i < m → bitX xs i = bitX ys i) ∨ ∃ k, k < m ∧ bitX xs k ≠ bitX ys k ∧ ∀ i, i < k → bitX xs i = bitX ys i
  | 0 => .inl fun i hi => absurd hi (Nat.not_lt_zero _)
  | m + 1 => by
    rcases first_bit xs ys m with h | ⟨k, h1, h2, h3⟩
    · by_cases he : bitX xs m = bitX ys m
      · exact .inl fun i hi => by
          by_cases him : i = m
          · rw [him]; exact he
          · exact h i (by omega)
      · exact .inr ⟨m, by omega, he, h⟩
    · exact .inr ⟨k, by omega, h2, h3⟩
/-- A prefix comes ahead of what it covers. -/
theorem lt_cov {q p : Px} (hq : okP q) (hp : okP p) (h : cov q p = true) (hn : q.n < p.n) : Lt q p := by
  rw [lt_iff]
  have hb := cov_b h
  rcases first_bit q.xs p.xs 128 with he | ⟨k, hk, hne, hag⟩
  · exact .inr ⟨hb, bits_ext hq.1 hp.1 he, hn⟩
  · left
    have hkn : q.n ≤ (k : Int) := by
      by_cases hc : (k : Int) < q.n
      · exact absurd (cov_bits h hk hc) hne
      · omega
    have h0 := hq.zero hk hkn
    have h1 : bitX p.xs k = 1 := by
      rcases bit_two p.xs k with h2 | h2
      · rw [h0, h2] at hne; exact absurd rfl hne
      · exact h2
    unfold cmpA
    rw [if_pos hb]
    exact cmpN_bits hq.1 hp.1 hk hag h0 h1
/-- What lies on the first side comes ahead of what lies on the second. -/
theorem lt_sides {q p r : Px} (hq : okP q) (hp : okP p) (hr : okP r) (h1 : cov q p = true) (h2 : cov q r = true) (n1 : q.n < p.n) (b1 : bitP p.xs q.n = false) (b2 : bitP r.xs q.n = true) : Lt p r := by
  rw [lt_iff]
  left
  have h0 := hq.parts.2.1
  have hl := ok_le hp
  have hb : p.b = r.b := (cov_b h1).symm.trans (cov_b h2)
  unfold cmpA
  rw [if_pos hb]
  refine cmpN_bits (k := q.n.toNat) hp.1 hr.1 (by omega) (fun i hi => ?_) ?_ (of_decide_eq_true b2)
  · rw [← cov_bits h1 (i := i) (by omega) (by omega), ← cov_bits h2 (i := i) (by omega) (by omega)]
  · have := of_decide_eq_false b1
    rcases bit_two p.xs q.n.toNat with h | h
    · exact h
    · exact absurd h this
/-- In order. -/
def Srt (L : List (Px × Value)) : Prop := L.Pairwise fun a b => Lt a.1 b.1
theorem toL_srt : ∀ {t : Tr}, Wf t → Srt t.toL
  | .nil, _ => List.Pairwise.nil
  | .node g q v l r, hw => by
    have hok := fun {t : Tr} (ht : Wf t) {e : Px × Value} (he : e ∈ t.toL) => ht.ok _ (toL_all he)
    refine List.pairwise_append.2 ⟨?_, List.pairwise_append.2 ⟨toL_srt hw.2.2.2.1, toL_srt hw.2.2.2.2, fun a ha b hb => ?_⟩, fun a ha b hb => ?_⟩
    · cases v with
      | none => exact List.Pairwise.nil
      | some u => obtain ⟨vb, x⟩ := u; exact List.pairwise_singleton _ _
    · obtain ⟨a1, a2, a3⟩ := hw.2.1 _ (toL_all ha)
      obtain ⟨b1, b2, b3⟩ := hw.2.2.1 _ (toL_all hb)
      exact lt_sides hw.1 (hok hw.2.2.2.1 ha) (hok hw.2.2.2.2 hb) a1 b1 a2 a3 b3
    · rw [ent_key ha]
      rcases List.mem_append.1 hb with hb | hb
      · obtain ⟨b1, b2, b3⟩ := hw.2.1 _ (toL_all hb)
        exact lt_cov hw.1 (hok hw.2.2.2.1 hb) b1 b2
      · obtain ⟨b1, b2, b3⟩ := hw.2.2.1 _ (toL_all hb)
        exact lt_cov hw.1 (hok hw.2.2.2.2 hb) b1 b2
/-- Both families' lists behind one another. -/
theorem both_srt {t4 t6 : Tr} (h4 : Wf t4) (h6 : Wf t6) (f4 : ∀ q ∈ t4.all, q.b = false) (f6 : ∀ q ∈ t6.all, q.b = true) : Srt (t4.toL ++ t6.toL) :=
  List.pairwise_append.2 ⟨toL_srt h4, toL_srt h6, fun a ha b hb => by
    rw [lt_iff]
    left
    unfold cmpA
    rw [f4 _ (toL_all ha), f6 _ (toL_all hb)]
    rfl⟩
/-- Two lists in order with the same members are one. -/
theorem srt_ext : ∀ {A B : List (Px × Value)}, Srt A → Srt B → (∀ e, e ∈ A ↔ e ∈ B) → A = B
  | [], [], _, _, _ => rfl
  | [], b :: B, _, _, h => by have := (h b).2 List.mem_cons_self; cases this
  | a :: A, [], _, _, h => by have := (h a).1 List.mem_cons_self; cases this
  | a :: A, b :: B, hA, hB, h => by
    obtain ⟨ha, hA'⟩ := List.pairwise_cons.1 hA
    obtain ⟨hb, hB'⟩ := List.pairwise_cons.1 hB
    have hab : a = b := by
      rcases List.mem_cons.1 ((h a).1 List.mem_cons_self) with h1 | h1
      · exact h1
      · rcases List.mem_cons.1 ((h b).2 List.mem_cons_self) with h2 | h2
        · exact h2.symm
        · exact (lt_asymm (hb a h1) (ha b h2)).elim
    subst hab
    rw [srt_ext hA' hB' fun e => ?_]
    constructor
    · intro he
      rcases List.mem_cons.1 ((h e).1 (List.mem_cons_of_mem _ he)) with h1 | h1
      · subst h1; exact absurd (ha e he) (lt_irr _)
      · exact h1
    · intro he
      rcases List.mem_cons.1 ((h e).2 (List.mem_cons_of_mem _ he)) with h1 | h1
      · subst h1; exact absurd (hb e he) (lt_irr _)
      · exact h1
/-- The list with p's value put in or replaced. -/
def putL (p : Px) (x : Value) : List (Px × Value) → List (Px × Value)
  | [] => [(p, x)]
  | e :: L => if cmpX e.1 p = -1 then e :: putL p x L else if e.1 = p then (p, x) :: L else (p, x) :: e :: L
theorem putL_mem {p : Px} {x : Value} : ∀ {L : List (Px × Value)} {e : Px × Value}, Srt L → (e ∈ putL p x L ↔ e = (p, x) ∨ (e.1 ≠ p ∧ e ∈ L))
  | [], e, _ => by simp [putL]
  | a :: L, e, hs => by
    obtain ⟨ha, hL⟩ := List.pairwise_cons.1 hs
    have hbig : Lt p a.1 ∨ a.1 = p → ∀ e ∈ L, e.1 ≠ p := fun hp e he hc => by
      have h1 := ha e he
      rw [hc] at h1
      rcases hp with hp | hp
      · exact lt_asymm h1 hp
      · rw [hp] at h1; exact lt_irr _ h1
    unfold putL
    by_cases h1 : cmpX a.1 p = -1
    · rw [if_pos h1, List.mem_cons, List.mem_cons, putL_mem hL]
      constructor
      · rintro (h | h | h)
        · exact .inr ⟨by rw [h]; intro hc; rw [hc] at h1; exact lt_irr _ h1, .inl h⟩
        · exact .inl h
        · exact .inr ⟨h.1, .inr h.2⟩
      · rintro (h | ⟨h0, h | h⟩)
        · exact .inr (.inl h)
        · exact .inl h
        · exact .inr (.inr ⟨h0, h⟩)
    · rw [if_neg h1]
      by_cases h2 : a.1 = p
      · rw [if_pos h2, List.mem_cons, List.mem_cons]
        constructor
        · rintro (h | h)
          · exact .inl h
          · exact .inr ⟨hbig (.inr h2) e h, .inr h⟩
        · rintro (h | ⟨h0, h | h⟩)
          · exact .inl h
          · rw [h] at h0; exact absurd h2 h0
          · exact .inr h
      · rw [if_neg h2]
        have hlt : Lt p a.1 := by
          rcases cmpX_cases a.1 p with h | h | h
          · exact absurd h h1
          · exact absurd h h2
          · exact h.1
        rw [List.mem_cons, List.mem_cons]
        constructor
        · rintro (h | h | h)
          · exact .inl h
          · exact .inr ⟨by rw [h]; exact h2, .inl h⟩
          · exact .inr ⟨hbig (.inl hlt) e h, .inr h⟩
        · rintro (h | ⟨h0, h⟩)
          · exact .inl h
          · exact .inr h
theorem putL_srt {p : Px} {x : Value} : ∀ {L : List (Px × Value)}, Srt L → Srt (putL p x L)
  | [], _ => List.pairwise_singleton _ _
  | a :: L, hs => by
    obtain ⟨ha, hL⟩ := List.pairwise_cons.1 hs
    unfold putL
    by_cases h1 : cmpX a.1 p = -1
    · rw [if_pos h1]
      refine List.pairwise_cons.2 ⟨fun e he => ?_, putL_srt hL⟩
      rcases (putL_mem hL).1 he with h | h
      · rw [h]; exact h1
      · exact ha e h.2
    · rw [if_neg h1]
      by_cases h2 : a.1 = p
      · rw [if_pos h2]
        exact List.pairwise_cons.2 ⟨fun e he => by have := ha e he; rw [h2] at this; exact this, hL⟩
      · rw [if_neg h2]
        have hlt : Lt p a.1 := by
          rcases cmpX_cases a.1 p with h | h | h
          · exact absurd h h1
          · exact absurd h h2
          · exact h.1
        refine List.pairwise_cons.2 ⟨fun e he => ?_, hs⟩
        rcases List.mem_cons.1 he with h | h
        · rw [h]; exact hlt
        · exact lt_trans hlt (ha e h)
/-- The value of a key. -/
def valL (L : List (Px × Value)) (p : Px) : Option Value := (L.find? fun e => decide (e.1 = p)).map (·.2)
theorem valL_iff {L : List (Px × Value)} (hs : Srt L) {p : Px} {x : Value} : valL L p = some x ↔ (p, x) ∈ L := by
  induction L with
  | nil => simp [valL]
  | cons a L ih =>
    obtain ⟨ha, hL⟩ := List.pairwise_cons.1 hs
    unfold valL
    rw [List.find?_cons]
    by_cases h : a.1 = p
    · rw [decide_eq_true h]
      constructor
      · intro h1
        obtain rfl : a.2 = x := by simpa using h1
        rw [← h]; exact List.mem_cons_self
      · intro h1
        rcases List.mem_cons.1 h1 with h1 | h1
        · rw [← h1]; rfl
        · have := ha _ h1; rw [h] at this; exact absurd this (lt_irr _)
    · rw [decide_eq_false h]
      have ih' := ih hL
      unfold valL at ih'
      rw [ih', List.mem_cons]
      constructor
      · exact .inr
      · rintro (h1 | h1)
        · rw [← h1] at h; exact absurd rfl h
        · exact h1
theorem valL_none {L : List (Px × Value)} {p : Px} : valL L p = none ↔ ∀ e ∈ L, e.1 ≠ p := by
  unfold valL
  rw [Option.map_eq_none_iff, List.find?_eq_none]
  simp
/-- Those that hold an address lie in one another: the lengths grow. -/
theorem has_grow {L : List (Px × Value)} (hs : Srt L) (hok : ∀ e ∈ L, okP e.1) {c : Bool} {ys : List Nat} : (L.filter fun e => has e.1 c ys).Pairwise fun a b => a.1.n < b.1.n := by
  have h1 : (L.filter fun e => has e.1 c ys).Pairwise fun a b => Lt a.1 b.1 := List.Pairwise.filter _ hs
  refine List.Pairwise.imp_of_mem (fun {a b} ha hb hlt => ?_) h1
  obtain ⟨ha1, ha2⟩ := List.mem_filter.1 ha
  obtain ⟨hb1, hb2⟩ := List.mem_filter.1 hb
  have hoa := hok a ha1
  have hob := hok b hb1
  rcases nested (n := a.1.n) (m := b.1.n) ha2 hb2 with h | h
  · refine cov_lt hoa hob h fun he => ?_
    rw [he] at hlt
    exact lt_irr _ hlt
  · have hbn : cov b.1 a.1 = true := h
    by_cases he : b.1 = a.1
    · rw [he] at hlt; exact absurd hlt (lt_irr _)
    · exact (lt_asymm hlt (lt_cov hob hoa hbn (cov_lt hob hoa hbn he))).elim
end Go.Proofs.YtnadendhboiliaaGreat
namespace Go.Proofs.YtnadendhboiliaaGreat
open Go.ChangeShapes Go.WideShapes Go.ChangeAt Go.RowKit
set_option linter.unusedVariables false

theorem nodup_node {g : Nat} {q : Px} {v : Option (Nat × Value)} {l r : Tr} (h1 : g ∉ vbl v) (h2 : g ∉ blk l) (h3 : g ∉ blk r) (h4 : ∀ k ∈ vbl v, k ∉ blk l ∧ k ∉ blk r) (h5 : (blk l).Nodup) (h6 : (blk r).Nodup) (h7 : ∀ k ∈ blk l, k ∉ blk r) : (blk (.node g q v l r)).Nodup := by
  rw [blk, List.nodup_cons, List.nodup_append, List.nodup_append]
  refine ⟨fun hm => ?_, ?_, ⟨h5, h6, fun a ha b hb hab => h7 a ha (hab ▸ hb)⟩, fun a ha b hb hab => ?_⟩
  · rcases List.mem_append.1 hm with hm | hm
    · exact h1 hm
    · rcases List.mem_append.1 hm with hm | hm
      · exact h2 hm
      · exact h3 hm
  · cases v with
    | none => exact List.nodup_nil
    | some u => obtain ⟨vb, x⟩ := u; exact List.nodup_cons.2 ⟨fun h => (List.not_mem_nil h).elim, List.nodup_nil⟩
  · subst hab
    rcases List.mem_append.1 hb with hb | hb
    · exact (h4 a ha).1 hb
    · exact (h4 a ha).2 hb
theorem blk_node {g : Nat} {q : Px} {v : Option (Nat × Value)} {l r : Tr} {k : Nat} : k ∈ blk (.node g q v l r) ↔ k = g ∨ k ∈ vbl v ∨ k ∈ blk l ∨ k ∈ blk r := by
  rw [blk, List.mem_cons, List.mem_append, List.mem_append]
theorem blk_fork {g : Nat} {q : Px} {v : Option (Nat × Value)} {d : Bool} {s u : Tr} {k : Nat} : k ∈ blk (fork g q v d s u) ↔ k = g ∨ k ∈ vbl v ∨ k ∈ blk s ∨ k ∈ blk u := by
  unfold fork
  cases d
  · rw [if_neg (by decide), blk_node]
  · rw [if_pos rfl, blk_node, or_comm (a := k ∈ blk u)]
theorem nodup_fork {g : Nat} {q : Px} {v : Option (Nat × Value)} {d : Bool} {l r : Tr} (h1 : g ∉ vbl v) (h2 : g ∉ blk l) (h3 : g ∉ blk r) (h4 : ∀ k ∈ vbl v, k ∉ blk l ∧ k ∉ blk r) (h5 : (blk l).Nodup) (h6 : (blk r).Nodup) (h7 : ∀ k ∈ blk l, k ∉ blk r) : (blk (fork g q v d l r)).Nodup := by
  unfold fork
  cases d
  · exact nodup_node h1 h2 h3 h4 h5 h6 h7
  · exact nodup_node h1 h3 h2 (fun k hk => (h4 k hk).symm) h6 h5 fun k hk hm => h7 k hm hk
theorem vbl_one {v : Nat × Value} {k : Nat} : k ∈ vbl (some v) ↔ k = v.1 := by obtain ⟨vb, x⟩ := v; exact List.mem_singleton
theorem top_blk {p : Px} {v : Nat × Value} {g1 g2 : Nat} : ∀ {t : Tr} {k : Nat}, k ∈ blk (top p v g1 g2 t) → k ∈ blk t ∨ k = v.1 ∨ k = g1 ∨ k = g2
  | .nil, k, h => by
    rcases blk_node.1 h with h | h | h | h
    · exact .inr (.inr (.inl h))
    · exact .inr (.inl (vbl_one.1 h))
    · cases h
    · cases h
  | .node g q u l r, k, h => by
    rw [top] at h
    split at h
    · rcases blk_node.1 h with h | h | h | h
      · exact .inl (blk_node.2 (.inl h))
      · exact .inr (.inl (vbl_one.1 h))
      · exact .inl (blk_node.2 (.inr (.inr (.inl h))))
      · exact .inl (blk_node.2 (.inr (.inr (.inr h))))
    · split at h
      · rcases blk_fork.1 h with h | h | h | h
        · exact .inr (.inr (.inl h))
        · exact .inr (.inl (vbl_one.1 h))
        · exact .inl h
        · cases h
      · rcases blk_fork.1 h with h | h | h | h
        · exact .inr (.inr (.inl h))
        · cases h
        · exact .inl h
        · rcases blk_node.1 h with h | h | h | h
          · exact .inr (.inr (.inr h))
          · exact .inr (.inl (vbl_one.1 h))
          · cases h
          · cases h
theorem ins_blk {p : Px} {v : Nat × Value} {g1 g2 : Nat} : ∀ {t : Tr} {k : Nat}, k ∈ blk (ins p v g1 g2 t) → k ∈ blk t ∨ k = v.1 ∨ k = g1 ∨ k = g2
  | .nil, k, h => top_blk (t := .nil) h
  | .node g q u l r, k, h => by
    unfold ins at h
    split at h
    · split at h
      · rcases blk_node.1 h with h | h | h | h
        · exact .inl (blk_node.2 (.inl h))
        · exact .inl (blk_node.2 (.inr (.inl h)))
        · exact .inl (blk_node.2 (.inr (.inr (.inl h))))
        · rcases ins_blk h with h | h
          · exact .inl (blk_node.2 (.inr (.inr (.inr h))))
          · exact .inr h
      · rcases blk_node.1 h with h | h | h | h
        · exact .inl (blk_node.2 (.inl h))
        · exact .inl (blk_node.2 (.inr (.inl h)))
        · rcases ins_blk h with h | h
          · exact .inl (blk_node.2 (.inr (.inr (.inl h))))
          · exact .inr h
        · exact .inl (blk_node.2 (.inr (.inr (.inr h))))
    · exact top_blk h
theorem top_nodup {p : Px} {v : Nat × Value} {g1 g2 : Nat} (d1 : v.1 ≠ g1) (d2 : v.1 ≠ g2) (d3 : g1 ≠ g2) : ∀ {t : Tr}, (blk t).Nodup → v.1 ∉ blk t → g1 ∉ blk t → g2 ∉ blk t → (blk (top p v g1 g2 t)).Nodup
  | .nil, _, _, _, _ => nodup_node (fun h => d1 (vbl_one.1 h).symm) (fun h => by cases h) (fun h => by cases h) (fun k hk => ⟨fun h => (by cases h), fun h => by cases h⟩) List.nodup_nil List.nodup_nil (fun k hk => by cases hk)
  | .node g q u l r, hn, h1, h2, h3 => by
    obtain ⟨n1, n2, n3, n4, n5, n6, n7⟩ := nodup_parts hn
    rw [top]
    split
    · refine nodup_node (fun h => h1 (blk_node.2 (.inl (vbl_one.1 h).symm))) n2 n3 (fun k hk => ?_) n5 n6 n7
      rw [vbl_one.1 hk]
      exact ⟨fun h => h1 (blk_node.2 (.inr (.inr (.inl h)))), fun h => h1 (blk_node.2 (.inr (.inr (.inr h))))⟩
    · split
      · exact nodup_fork (fun h => d1 (vbl_one.1 h).symm) h2 (fun h => by cases h) (fun k hk => ⟨by rw [vbl_one.1 hk]; exact h1, fun h => by cases h⟩) hn List.nodup_nil (fun k hk hm => by cases hm)
      · have hone : (blk (.node g2 p (some v) .nil .nil)).Nodup := nodup_node (fun h => d2 (vbl_one.1 h).symm) (fun h => by cases h) (fun h => by cases h) (fun k hk => ⟨fun h => (by cases h), fun h => by cases h⟩) List.nodup_nil List.nodup_nil (fun k hk => by cases hk)
        have hmem : ∀ {k}, k ∈ blk (Tr.node g2 p (some v) .nil .nil) → k = g2 ∨ k = v.1 := fun hk => by
          rcases blk_node.1 hk with h | h | h | h
          · exact .inl h
          · exact .inr (vbl_one.1 h)
          · cases h
          · cases h
        refine nodup_fork (fun h => by cases h) h2 (fun h => ?_) (fun k hk => by cases hk) hn hone fun k hk hm => ?_
        · rcases hmem h with h | h
          · exact d3 h
          · exact d1 h.symm
        · rcases hmem hm with h | h
          · rw [h] at hk; exact h3 hk
          · rw [h] at hk; exact h1 hk
theorem ins_nodup {p : Px} {v : Nat × Value} {g1 g2 : Nat} (d1 : v.1 ≠ g1) (d2 : v.1 ≠ g2) (d3 : g1 ≠ g2) : ∀ {t : Tr}, (blk t).Nodup → v.1 ∉ blk t → g1 ∉ blk t → g2 ∉ blk t → (blk (ins p v g1 g2 t)).Nodup
  | .nil, a, b, c, d => top_nodup d1 d2 d3 (t := .nil) a b c d
  | .node g q u l r, hn, h1, h2, h3 => by
    obtain ⟨n1, n2, n3, n4, n5, n6, n7⟩ := nodup_parts hn
    have fresh : ∀ {k}, k ∈ blk (Tr.node g q u l r) → k ≠ v.1 ∧ k ≠ g1 ∧ k ≠ g2 := fun hk => ⟨fun h => h1 (h ▸ hk), fun h => h2 (h ▸ hk), fun h => h3 (h ▸ hk)⟩
    unfold ins
    split
    · split
      · refine nodup_node n1 n2 (fun h => ?_) (fun k hk => ⟨(n4 k hk).1, fun h => ?_⟩) n5 (ins_nodup d1 d2 d3 n6 (fun h => h1 (blk_node.2 (.inr (.inr (.inr h))))) (fun h => h2 (blk_node.2 (.inr (.inr (.inr h))))) (fun h => h3 (blk_node.2 (.inr (.inr (.inr h)))))) fun k hk h => ?_
        · have f := fresh (k := g) (blk_node.2 (.inl rfl))
          rcases ins_blk h with h | h | h | h
          · exact n3 h
          · exact f.1 h
          · exact f.2.1 h
          · exact f.2.2 h
        · have f := fresh (k := k) (blk_node.2 (.inr (.inl hk)))
          rcases ins_blk h with h | h | h | h
          · exact (n4 k hk).2 h
          · exact f.1 h
          · exact f.2.1 h
          · exact f.2.2 h
        · have f := fresh (k := k) (blk_node.2 (.inr (.inr (.inl hk))))
          rcases ins_blk h with h | h | h | h
          · exact n7 k hk h
          · exact f.1 h
          · exact f.2.1 h
          · exact f.2.2 h
      · refine nodup_node n1 (fun h => ?_) n3 (fun k hk => ⟨fun h => ?_, (n4 k hk).2⟩) (ins_nodup d1 d2 d3 n5 (fun h => h1 (blk_node.2 (.inr (.inr (.inl h))))) (fun h => h2 (blk_node.2 (.inr (.inr (.inl h))))) (fun h => h3 (blk_node.2 (.inr (.inr (.inl h)))))) n6 fun k hk h => ?_
        · have f := fresh (k := g) (blk_node.2 (.inl rfl))
          rcases ins_blk h with h | h | h | h
          · exact n2 h
          · exact f.1 h
          · exact f.2.1 h
          · exact f.2.2 h
        · have f := fresh (k := k) (blk_node.2 (.inr (.inl hk)))
          rcases ins_blk h with h | h | h | h
          · exact (n4 k hk).1 h
          · exact f.1 h
          · exact f.2.1 h
          · exact f.2.2 h
        · have f := fresh (k := k) (blk_node.2 (.inr (.inr (.inr h))))
          rcases ins_blk hk with h' | h' | h' | h'
          · exact n7 k h' h
          · exact f.1 h'
          · exact f.2.1 h'
          · exact f.2.2 h'
    · exact top_nodup d1 d2 d3 hn h1 h2 h3
def ptrs (D : List (Nat × Px × Nat × Value)) : List Value := D.map fun e => .pointer (some ⟨e.1, 0, none⟩)
theorem ptrs_append (D E : List (Nat × Px × Nat × Value)) : ptrs (D ++ E) = ptrs D ++ ptrs E := List.map_append
theorem ptrs_one (D : List (Nat × Px × Nat × Value)) : ∀ u ∈ ptrs D, u.oneCell' = true := by
  intro u hu
  obtain ⟨e, -, rfl⟩ := List.mem_map.1 hu
  rfl

/-- What lies in memory of a node with a value on the way of an address. -/
theorem pth_in {N V : TypeId} {w : World} {c : Bool} {ys : List Nat} : ∀ {t : Tr}, In N V w t → Wf t → ∀ e ∈ pth c ys t, ∃ l r, w.heap[e.1]? = some (.cells (cellsOf e.2.1 (some (e.2.2.1, e.2.2.2)) l r).toArray N (0, 0)) ∧ w.heap[e.2.2.1]? = some (.cells #[e.2.2.2] V (0, 0)) ∧ okP e.2.1
  | .nil, _, _, e, he => by cases he
  | .node g q v l r, hi, hw, e, he => by
    rw [pth] at he
    split at he
    · rcases List.mem_append.1 he with h | h
      · cases v with
        | none => cases h
        | some u =>
          obtain ⟨vb, x⟩ := u
          rw [List.mem_singleton.1 h]
          exact ⟨l, r, hi.1, hi.2.1, hw.1⟩
      · split at h
        · exact pth_in hi.2.2.2 hw.2.2.2.2 e h
        · exact pth_in hi.2.2.1 hw.2.2.2.1 e h
    · cases he
theorem pth_len {c : Bool} {ys : List Nat} : ∀ {t : Tr} (k : Nat), Wf t → (∀ x ∈ t.all, (k : Int) ≤ x.n) → (pth c ys t).length ≤ 129 - k
  | .nil, k, _, _ => Nat.zero_le _
  | .node g q v l r, k, hw, hk => by
    have h1 := hk q List.mem_cons_self
    have h2 := ok_le hw.1
    have hl := pth_len (c := c) (ys := ys) (k + 1) hw.2.2.2.1 fun x hx => by have := (hw.2.1 x hx).2.1; omega
    have hr := pth_len (c := c) (ys := ys) (k + 1) hw.2.2.2.2 fun x hx => by have := (hw.2.2.1 x hx).2.1; omega
    have he : (entN g q v).length ≤ 1 := by cases v <;> simp [entN]
    rw [pth]
    split
    · rw [List.length_append]
      split <;> omega
    · exact Nat.zero_le _
theorem pth_129 {c : Bool} {ys : List Nat} {t : Tr} (hw : Wf t) : (pth c ys t).length ≤ 129 := pth_len 0 hw fun x hx => (hw.ok x hx).parts.2.1
/-- A trie in memory: its header, the trees of the two families, how many prefixes. -/
structure Tri (N V T : TypeId) (w : World) (a : Nat) (t4 t6 : Tr) : Prop where
  head : w.heap[a]? = some (.cells #[rt t4, rt t6, .int .i64 ((t4.toL ++ t6.toL).length : Nat)] T (0, 0))
  i4 : In N V w t4
  i6 : In N V w t6
  nd : (a :: (blk t4 ++ blk t6)).Nodup
  w4 : Wf t4
  w6 : Wf t6
  f4 : ∀ q ∈ t4.all, q.b = false
  f6 : ∀ q ∈ t6.all, q.b = true
/-- The blocks of a trie. -/
def own (a : Nat) (t4 t6 : Tr) (k : Nat) : Prop := k = a ∨ k ∈ blk t4 ∨ k ∈ blk t6
theorem Tri.fr {N V T : TypeId} {w w' : World} {a : Nat} {t4 t6 : Tr} (h : Tri N V T w a t4 t6) {S : Nat → Prop} (hf : Fr S w w') (hS : ∀ k, own a t4 t6 k → ¬ S k) : Tri N V T w' a t4 t6 :=
  ⟨(hf.block a (some_lt h.head) (hS a (.inl rfl))).trans h.head, h.i4.fr hf fun k hk => hS k (.inr (.inl hk)), h.i6.fr hf fun k hk => hS k (.inr (.inr hk)), h.nd, h.w4, h.w6, h.f4, h.f6⟩
theorem Tri.no {N V T : TypeId} {w w' : World} {a : Nat} {t4 t6 : Tr} (h : Tri N V T w a t4 t6) (hf : Fr No w w') : Tri N V T w' a t4 t6 := h.fr hf fun _ _ h => h
theorem Tri.lt {N V T : TypeId} {w : World} {a : Nat} {t4 t6 : Tr} (h : Tri N V T w a t4 t6) {k : Nat} (hk : own a t4 t6 k) : k < w.heap.size := by
  rcases hk with rfl | hk | hk
  · exact some_lt h.head
  · exact h.i4.lt k hk
  · exact h.i6.lt k hk
end Go.Proofs.YtnadendhboiliaaGreat
namespace Go.Proofs.YtnadendhboiliaaGreat
open Go.ChangeShapes Go.WideShapes Go.ChangeAt Go.RowKit
set_option linter.unusedVariables false

theorem slot_notin : ∀ {t : Tr} {ds : List Bool} {A : Addr}, ds ≠ [] → okW t ds → (blk t).Nodup → (slotOf A t ds).block ∉ blk (sub t ds)
  | t, [], A, h, _, _ => absurd rfl h
  | .nil, _ :: _, A, _, h, _ => h.elim
  | .node g q v l r, d :: ds, A, _, ho, hn => by
    obtain ⟨n1, n2, n3, n4, n5, n6, n7⟩ := nodup_parts hn
    rw [slotOf, sub]
    rw [okW] at ho
    cases d with
    | true =>
      rw [if_pos rfl] at ho ⊢
      rw [if_pos rfl]
      by_cases he : ds = []
      · subst he; rw [slotOf, sub]; exact n3
      · exact slot_notin he ho n6
    | false =>
      rw [if_neg (by decide)] at ho ⊢
      rw [if_neg (by decide)]
      by_cases he : ds = []
      · subst he; rw [slotOf, sub]; exact n2
      · exact slot_notin he ho n5
theorem sub_nodup : ∀ {t : Tr} {ds : List Bool}, (blk t).Nodup → (blk (sub t ds)).Nodup
  | t, [], h => by rw [sub]; exact h
  | .nil, _ :: _, h => h
  | .node g q v l r, d :: ds, h => by
    obtain ⟨n1, n2, n3, n4, n5, n6, n7⟩ := nodup_parts h
    rw [sub]
    split
    · exact sub_nodup n6
    · exact sub_nodup n5
theorem slot_form (a ao : Nat) : ∀ (t : Tr) (ds : List Bool), okW t ds → ∃ b o, slotOf ⟨a, ao, none⟩ t ds = ⟨b, o, none⟩ := by
  intro t ds ho
  by_cases he : ds = []
  · subst he; exact ⟨a, ao, by rw [slotOf]⟩
  · obtain ⟨_, o, h, _⟩ := slot_block (A := ⟨a, ao, none⟩) he ho
    exact ⟨_, o, h⟩
/-- The tree in memory, once the place and the value are written. -/
theorem prov_fin {N V T : TypeId} {w w' w'' : World} {a ao gp g1 g2 : Nat} {t : Tr} {p : Px} {v : Nat × Value} (hi : In N V w t) (hw : Wf t) (hn : (blk t).Nodup) (ha : a ∉ blk t)
    (hF : Fr (fun k => k = (slotOf ⟨a, ao, none⟩ t (fp t p)).block) w w')
    (hslot : ∀ cs T, w.heap[(slotOf ⟨a, ao, none⟩ t (fp t p)).block]? = some (.cells cs T (0, 0)) → w'.heap[(slotOf ⟨a, ao, none⟩ t (fp t p)).block]? = some (.cells (cs.setIfInBounds (slotOf ⟨a, ao, none⟩ t (fp t p)).off (rt (top p v g1 g2 (sub t (fp t p))))) T (0, 0)))
    (hgp : (gp ∉ blk t) ∨ gp ∈ blk (sub t (fp t p)))
    (hk : ∀ k, k < w'.heap.size → k ≠ gp → k ≠ a → w''.heap[k]? = w'.heap[k]?)
    (hin : In N V w'' (top p v g1 g2 (sub t (fp t p)))) : In N V w'' (ins p v g1 g2 t) := by
  rw [ins_plug]
  by_cases he : fp t p = []
  · rw [he] at hin ⊢
    rw [sub] at hin
    rw [plug, sub]
    exact hin
  · have ho := fp_ok t p
    obtain ⟨hsb, -⟩ := slot_block (A := ⟨a, ao, none⟩) he ho
    have hsn := slot_notin (A := ⟨a, ao, none⟩) he ho hn
    refine plug_in (A := ⟨a, ao, none⟩) he ho hn hw hi (fun k hm h1 h2 => ?_) (fun cs T h => ?_) hin
    · have hlt := hi.lt k hm
      rw [hk k (Nat.lt_of_lt_of_le hlt hF.size) (fun hc => ?_) (fun hc => ha (hc ▸ hm)), hF.block k hlt h2]
      rw [hc] at hm h1
      rcases hgp with hgp | hgp
      · exact hgp hm
      · exact h1 hgp
    · rw [hk _ (Nat.lt_of_lt_of_le (hi.lt _ hsb) hF.size) (fun hc => ?_) (fun hc => ha (hc ▸ hsb))]
      · exact hslot cs T h
      · rcases hgp with hgp | hgp
        · exact hgp (hc ▸ hsb)
        · exact hsn (hc ▸ hgp)
theorem ins_rt {a ao : Nat} {p : Px} {v : Nat × Value} {g1 g2 : Nat} {t : Tr} (he : fp t p ≠ []) : rt (ins p v g1 g2 t) = rt t := by
  rw [ins_plug, rt_plug he (fp_ok t p)]
theorem ins_rt_nil {p : Px} {v : Nat × Value} {g1 g2 : Nat} {t : Tr} (he : fp t p = []) : rt (ins p v g1 g2 t) = rt (top p v g1 g2 (sub t (fp t p))) := by
  rw [ins_plug, he, plug]
/-- The joint of a tree and a prefix that it does not cover. -/
def joint (p : Px) (g1 g : Nat) (q : Px) (u : Option (Nat × Value)) (l r : Tr) : Tr := fork g1 (com q p) none (sideB (com q p) q.b q.xs) (.node g q u l r) .nil
theorem joint_wf {p : Px} {g1 g : Nat} {q : Px} {u : Option (Nat × Value)} {l r : Tr} (hp : okP p) (hw : Wf (.node g q u l r)) (hb : q.b = p.b) (hne : q ≠ p) (hc : cov q p ≠ true) : Wf (joint p g1 g q u l r) ∧ (com q p).n < q.n ∧ okP (com q p) := by
  obtain ⟨c1, c2, c3, c4, c5, c6⟩ := com_spec hw.1 hp hb
  have hlt : (com q p).n < q.n := by
    refine cov_lt c1 hw.1 c2 fun h => ?_
    rw [h] at c3
    exact hc c3
  refine ⟨?_, hlt, c1⟩
  unfold joint
  rw [side_cov c1 hw.1 c2 hlt]
  exact fork_wf c1 (under_node hw c2 hlt c1) (under_nil _ _) hw trivial
theorem joint_here {p : Px} {g1 g : Nat} {q : Px} {u : Option (Nat × Value)} {l r : Tr} (h : com q p = p) : fp (joint p g1 g q u l r) p = [] := by
  unfold joint fork
  split <;> (rw [fp, if_neg (fun hc => hc.1 h)])
theorem joint_side {p : Px} {g1 g : Nat} {q : Px} {u : Option (Nat × Value)} {l r : Tr} (hp : okP p) (hq : okP q) (hb : q.b = p.b) (hc : cov q p ≠ true) (h : com q p ≠ p) : fp (joint p g1 g q u l r) p = [!sideB (com q p) q.b q.xs] ∧ sub (joint p g1 g q u l r) [!sideB (com q p) q.b q.xs] = .nil := by
  obtain ⟨c1, c2, c3, c4, c5, c6⟩ := com_spec hq hp hb
  have hlt : (com q p).n < q.n := by
    refine cov_lt c1 hq c2 fun h => ?_
    rw [h] at c3
    exact hc c3
  have hlp := cov_lt c1 hp c3 h
  have hs := com_split hq hp hb hlt hlp
  have e1 := side_cov c1 hq c2 hlt
  have e2 := side_cov c1 hp c3 hlp
  have e3 : sideB (com q p) p.b p.xs = !sideB (com q p) q.b q.xs := by
    rw [e1, e2]
    revert hs
    cases bitP q.xs (com q p).n <;> cases bitP p.xs (com q p).n <;> simp
  unfold joint fork
  cases hd : sideB (com q p) q.b q.xs
  · rw [hd] at e3
    rw [if_neg (by decide), fp, if_pos ⟨h, c3⟩, e3, if_pos (by decide), sub]
    exact ⟨rfl, rfl⟩
  · rw [hd] at e3
    rw [if_pos rfl, fp, if_pos ⟨h, c3⟩, e3, if_neg (by decide), sub]
    exact ⟨rfl, rfl⟩
theorem set_self {cs : Array Value} {i : Nat} {u : Value} (h : cs[i]? = some u) : cs.setIfInBounds i u = cs := by
  apply Array.ext_getElem?
  intro j
  rw [Array.getElem?_setIfInBounds]
  split
  · rename_i he; subst he; rw [h]; simp [(Array.getElem?_eq_some_iff.1 h).1]
  · rfl
theorem cell_heap {w : World} {b o : Nat} {cs : Array Value} {T : TypeId} {f : Nat × Nat} {u : Value} (h : w.heap[b]? = some (.cells cs T f)) (hc : w.cell? ⟨b, o, none⟩ = some u) : cs[o]? = some u := by
  simpa [World.cell?, h] using hc
end Go.Proofs.YtnadendhboiliaaGreat
namespace Go.Proofs.YtnadendhboiliaaGreat
open Go.ChangeShapes Go.WideShapes Go.ChangeAt Go.RowKit
set_option linter.unusedVariables false

theorem putL_len {p : Px} {x : Value} : ∀ {L : List (Px × Value)}, Srt L → (putL p x L).length = if (valL L p).isSome then L.length else L.length + 1
  | [], _ => rfl
  | e :: L, hs => by
    obtain ⟨he, hL⟩ := List.pairwise_cons.1 hs
    have hno : (Lt p e.1 ∨ e.1 = p) → ∀ x ∈ L, x.1 ≠ p := fun hp x hx hc => by
      have h1 := he x hx
      rw [hc] at h1
      rcases hp with hp | hp
      · exact lt_asymm h1 hp
      · rw [hp] at h1; exact lt_irr _ h1
    rw [putL]
    by_cases h1 : cmpX e.1 p = -1
    · rw [if_pos h1, List.length_cons, putL_len hL]
      have hne : e.1 ≠ p := fun hc => by rw [hc] at h1; exact lt_irr _ h1
      have hv : valL (e :: L) p = valL L p := by unfold valL; rw [List.find?_cons, decide_eq_false hne]
      rw [hv]
      split <;> rfl
    · rw [if_neg h1]
      by_cases h2 : e.1 = p
      · rw [if_pos h2]
        have hv : valL (e :: L) p = some e.2 := by unfold valL; rw [List.find?_cons, decide_eq_true h2]; rfl
        rw [hv]; rfl
      · rw [if_neg h2]
        have hlt : Lt p e.1 := by
          rcases cmpX_cases e.1 p with h | h | h
          · exact absurd h h1
          · exact absurd h h2
          · exact h.1
        have hv : valL (e :: L) p = none := valL_none.2 fun x hx => by
          rcases List.mem_cons.1 hx with h | h
          · rw [h]; exact h2
          · exact hno (.inl hlt) x h
        rw [hv]; rfl
/-- The tree of a family, and the other. -/
def mine (p : Px) (t4 t6 : Tr) : Tr := if p.b = true then t6 else t4
def other (p : Px) (t4 t6 : Tr) : Tr := if p.b = true then t4 else t6
theorem Tri.mine_wf {N V T : TypeId} {w : World} {a : Nat} {t4 t6 : Tr} (h : Tri N V T w a t4 t6) (p : Px) : Wf (mine p t4 t6) ∧ (∀ q ∈ (mine p t4 t6).all, q.b = p.b) ∧ (blk (mine p t4 t6)).Nodup ∧ a ∉ blk (mine p t4 t6) ∧ In N V w (mine p t4 t6) := by
  have hnd := h.nd
  rw [List.nodup_cons, List.nodup_append] at hnd
  obtain ⟨h1, h2, h3, h4⟩ := hnd
  unfold mine
  cases hp : p.b with
  | true => rw [if_pos rfl]; exact ⟨h.w6, h.f6, h3, fun hc => h1 (List.mem_append.2 (.inr hc)), h.i6⟩
  | false => rw [if_neg (by decide)]; exact ⟨h.w4, h.f4, h2, fun hc => h1 (List.mem_append.2 (.inl hc)), h.i4⟩
/-- What is found is the value of the key. -/
theorem get_val {N V T : TypeId} {w : World} {a : Nat} {t4 t6 : Tr} (h : Tri N V T w a t4 t6) (p : Px) : (getT (mine p t4 t6) p).map (·.2) = valL (t4.toL ++ t6.toL) p := by
  have hs := both_srt h.w4 h.w6 h.f4 h.f6
  obtain ⟨m1, m2, -⟩ := h.mine_wf p
  have hin : ∀ x, (p, x) ∈ t4.toL ++ t6.toL ↔ (p, x) ∈ (mine p t4 t6).toL := fun x => by
    rw [List.mem_append]
    unfold mine
    cases hp : p.b with
    | true =>
      rw [if_pos rfl]
      exact ⟨fun hc => by
        rcases hc with hc | hc
        · have := h.f4 _ (toL_all hc); rw [hp] at this; cases this
        · exact hc, .inr⟩
    | false =>
      rw [if_neg (by decide)]
      exact ⟨fun hc => by
        rcases hc with hc | hc
        · exact hc
        · have := h.f6 _ (toL_all hc); rw [hp] at this; exact Bool.noConfusion this, .inl⟩
  by_cases hp : okP p
  · cases hg : getT (mine p t4 t6) p with
    | none =>
      symm
      refine valL_none.2 fun e he hc => ?_
      have h1 : (p, e.2) ∈ t4.toL ++ t6.toL := by rw [← hc]; exact he
      obtain ⟨vb, h2⟩ := (get_mem hp m1).1 ((hin _).1 h1)
      rw [hg] at h2; cases h2
    | some u =>
      obtain ⟨vb, x⟩ := u
      symm
      exact (valL_iff hs).2 ((hin x).2 ((get_mem hp m1).2 ⟨vb, hg⟩))
  · have hno : ∀ e ∈ t4.toL ++ t6.toL, e.1 ≠ p := fun e he hc => by
      rcases List.mem_append.1 he with h1 | h1
      · exact hp (hc ▸ h.w4.ok _ (toL_all h1))
      · exact hp (hc ▸ h.w6.ok _ (toL_all h1))
    rw [valL_none.2 hno]
    have hgn : getT (mine p t4 t6) p = none := by
      unfold getT
      have hall : ∀ (t : Tr) (ds : List Bool), Wf t → Wf (sub t ds) := by
        intro t
        induction t with
        | nil => intro ds h; cases ds <;> exact h
        | node g q v l r ihl ihr =>
          intro ds h
          cases ds with
          | nil => exact h
          | cons d ds =>
            rw [sub]
            split
            · exact ihr ds h.2.2.2.2
            · exact ihl ds h.2.2.2.1
      have hw := hall (mine p t4 t6) (fp (mine p t4 t6) p) m1
      cases hs : sub (mine p t4 t6) (fp (mine p t4 t6) p) with
      | nil => rfl
      | node g q v l r =>
        rw [hs] at hw
        have hne : q ≠ p := fun hc => hp (by rw [← hc]; exact hw.1)
        exact if_neg hne
    rw [hgn]; rfl
theorem tri_ins {N V T : TypeId} {w w5 : World} {a : Nat} {t4 t6 : Tr} (hT : Tri N V T w a t4 t6) {p : Px} (hp : okP p) {v : Nat × Value} {g1 g2 : Nat} (d1 : v.1 ≠ g1) (d2 : v.1 ≠ g2) (d3 : g1 ≠ g2) (f1 : w.heap.size ≤ v.1) (f2 : w.heap.size ≤ g1) (f3 : w.heap.size ≤ g2)
    (hin : In N V w5 (ins p v g1 g2 (mine p t4 t6))) (ho : In N V w5 (other p t4 t6))
    (hh : w5.heap[a]? = some (.cells #[rt (if p.b = true then t4 else ins p v g1 g2 t4), rt (if p.b = true then ins p v g1 g2 t6 else t6), .int .i64 ((putL p v.2 (t4.toL ++ t6.toL)).length : Nat)] T (0, 0))) :
    Tri N V T w5 a (if p.b = true then t4 else ins p v g1 g2 t4) (if p.b = true then ins p v g1 g2 t6 else t6) ∧ (if p.b = true then t4 else ins p v g1 g2 t4).toL ++ (if p.b = true then ins p v g1 g2 t6 else t6).toL = putL p v.2 (t4.toL ++ t6.toL) ∧ ∀ k, own a (if p.b = true then t4 else ins p v g1 g2 t4) (if p.b = true then ins p v g1 g2 t6 else t6) k → own a t4 t6 k ∨ w.heap.size ≤ k := by
  have hs := both_srt hT.w4 hT.w6 hT.f4 hT.f6
  have hlt := fun {k} (hk : own a t4 t6 k) => hT.lt hk
  have hnd := hT.nd
  rw [List.nodup_cons, List.nodup_append] at hnd
  obtain ⟨n1, n2, n3, n4⟩ := hnd
  unfold mine at hin
  unfold other at ho
  cases hb : p.b with
  | true =>
    rw [hb] at hin ho hh
    simp only [if_true] at hin ho hh ⊢
    have hbt : ∀ q ∈ t6.all, q.b = p.b := fun q hq => (hT.f6 q hq).trans hb.symm
    have hfam := ins_fam (p := p) (v := v) (g1 := g1) (g2 := g2) hbt
    have hwf := ins_wf (v := v) (g1 := g1) (g2 := g2) hp hT.w6 hbt
    have hls : t4.toL ++ (ins p v g1 g2 t6).toL = putL p v.2 (t4.toL ++ t6.toL) := by
      refine srt_ext (both_srt hT.w4 hwf hT.f4 fun q hq => (hfam q hq).trans hb) (putL_srt hs) fun e => ?_
      rw [putL_mem hs, List.mem_append, List.mem_append, ins_mem hp hT.w6 hbt]
      constructor
      · rintro (h | h | ⟨h1, h2⟩)
        · refine .inr ⟨fun hc => ?_, .inl h⟩
          have := hT.f4 _ (toL_all h); rw [hc, hb] at this; cases this
        · exact .inl h
        · exact .inr ⟨h1, .inr h2⟩
      · rintro (h | ⟨h1, h | h⟩)
        · exact .inr (.inl h)
        · exact .inl h
        · exact .inr (.inr ⟨h1, h⟩)
    refine ⟨⟨by rw [hls]; exact hh, ho, hin, ?_, hT.w4, hwf, hT.f4, fun q hq => (hfam q hq).trans hb⟩, hls, fun k hk => ?_⟩
    · refine List.nodup_cons.2 ⟨fun hc => ?_, List.nodup_append.2 ⟨n2, ins_nodup d1 d2 d3 n3 (fun hc => by have := hlt (.inr (.inr hc)); omega) (fun hc => by have := hlt (.inr (.inr hc)); omega) (fun hc => by have := hlt (.inr (.inr hc)); omega), fun x hx y hy hxy => ?_⟩⟩
      · rcases List.mem_append.1 hc with hc | hc
        · exact n1 (List.mem_append.2 (.inl hc))
        · have ha := hlt (k := a) (.inl rfl)
          rcases ins_blk hc with h | h | h | h
          · exact n1 (List.mem_append.2 (.inr h))
          · omega
          · omega
          · omega
      · subst hxy
        have hx' := hlt (k := x) (.inr (.inl hx))
        rcases ins_blk hy with h | h | h | h
        · exact n4 x hx x h rfl
        · omega
        · omega
        · omega
    · rcases hk with h | h | h
      · exact .inl (.inl h)
      · exact .inl (.inr (.inl h))
      · rcases ins_blk h with h | h | h | h
        · exact .inl (.inr (.inr h))
        · exact .inr (by omega)
        · exact .inr (by omega)
        · exact .inr (by omega)
  | false =>
    rw [hb] at hin ho hh
    simp only [Bool.false_eq_true, if_false] at hin ho hh ⊢
    have hbt : ∀ q ∈ t4.all, q.b = p.b := fun q hq => (hT.f4 q hq).trans hb.symm
    have hfam := ins_fam (p := p) (v := v) (g1 := g1) (g2 := g2) hbt
    have hwf := ins_wf (v := v) (g1 := g1) (g2 := g2) hp hT.w4 hbt
    have hls : (ins p v g1 g2 t4).toL ++ t6.toL = putL p v.2 (t4.toL ++ t6.toL) := by
      refine srt_ext (both_srt hwf hT.w6 (fun q hq => (hfam q hq).trans hb) hT.f6) (putL_srt hs) fun e => ?_
      rw [putL_mem hs, List.mem_append, List.mem_append, ins_mem hp hT.w4 hbt]
      constructor
      · rintro ((h | ⟨h1, h2⟩) | h)
        · exact .inl h
        · exact .inr ⟨h1, .inl h2⟩
        · refine .inr ⟨fun hc => ?_, .inr h⟩
          have := hT.f6 _ (toL_all h); rw [hc, hb] at this; cases this
      · rintro (h | ⟨h1, h | h⟩)
        · exact .inl (.inl h)
        · exact .inl (.inr ⟨h1, h⟩)
        · exact .inr h
    refine ⟨⟨by rw [hls]; exact hh, hin, ho, ?_, hwf, hT.w6, fun q hq => (hfam q hq).trans hb, hT.f6⟩, hls, fun k hk => ?_⟩
    · refine List.nodup_cons.2 ⟨fun hc => ?_, List.nodup_append.2 ⟨ins_nodup d1 d2 d3 n2 (fun hc => by have := hlt (.inr (.inl hc)); omega) (fun hc => by have := hlt (.inr (.inl hc)); omega) (fun hc => by have := hlt (.inr (.inl hc)); omega), n3, fun x hx y hy hxy => ?_⟩⟩
      · rcases List.mem_append.1 hc with hc | hc
        · have ha := hlt (k := a) (.inl rfl)
          rcases ins_blk hc with h | h | h | h
          · exact n1 (List.mem_append.2 (.inl h))
          · omega
          · omega
          · omega
        · exact n1 (List.mem_append.2 (.inr hc))
      · subst hxy
        have hx' := hlt (k := x) (.inr (.inr hy))
        rcases ins_blk hx with h | h | h | h
        · exact n4 x h x hy rfl
        · omega
        · omega
        · omega
    · rcases hk with h | h | h
      · exact .inl (.inl h)
      · rcases ins_blk h with h | h | h | h
        · exact .inl (.inr (.inl h))
        · exact .inr (by omega)
        · exact .inr (by omega)
        · exact .inr (by omega)
      · exact .inl (.inr (.inr h))
/-- Where the place lies. -/
theorem place {N V T : TypeId} {w : World} {a : Nat} {t4 t6 : Tr} (hT : Tri N V T w a t4 t6) {p : Px} {ao sb so : Nat} {ds : List Bool} (ho : okW (mine p t4 t6) ds) (hsl : slotOf ⟨a, ao, none⟩ (mine p t4 t6) ds = ⟨sb, so, none⟩) : own a t4 t6 sb ∧ sb ∉ blk (other p t4 t6) ∧ (ds = [] → sb = a ∧ so = ao) ∧ (ds ≠ [] → sb ≠ a) := by
  have hnd := hT.nd
  rw [List.nodup_cons, List.nodup_append] at hnd
  obtain ⟨n1, n2, n3, n4⟩ := hnd
  by_cases he : ds = []
  · subst he
    rw [slotOf] at hsl
    cases hsl
    refine ⟨.inl rfl, fun hc => ?_, fun _ => ⟨rfl, rfl⟩, fun h => absurd rfl h⟩
    unfold other at hc
    split at hc
    · exact n1 (List.mem_append.2 (.inl hc))
    · exact n1 (List.mem_append.2 (.inr hc))
  · obtain ⟨h1, -⟩ := slot_block (A := ⟨a, ao, none⟩) he ho
    rw [hsl] at h1
    unfold mine at h1
    refine ⟨?_, fun hc => ?_, fun h => absurd h he, fun _ hc => ?_⟩
    · split at h1
      · exact .inr (.inr h1)
      · exact .inr (.inl h1)
    · unfold other at hc
      split at h1
      · rename_i hb; rw [if_pos hb] at hc; exact n4 sb hc sb h1 rfl
      · rename_i hb; rw [if_neg hb] at hc; exact n4 sb h1 sb hc rfl
    · have h2 : sb ∈ blk (mine p t4 t6) := h1
      rw [hc] at h2
      exact (hT.mine_wf p).2.2.2.1 h2
theorem prov_head {N V T : TypeId} {w w' : World} {a : Nat} {t4 t6 : Tr} (hT : Tri N V T w a t4 t6) {p : Px} {v : Nat × Value} {g1 g2 ao sb so : Nat} (hao : (if p.b = true then 1 else 0 : Nat) = ao) (hsl : slotOf ⟨a, ao, none⟩ (mine p t4 t6) (fp (mine p t4 t6) p) = ⟨sb, so, none⟩) (hF : Fr (fun k => k = sb) w w')
    (hslot : ∀ cs T, w.heap[sb]? = some (.cells cs T (0, 0)) → w'.heap[sb]? = some (.cells (cs.setIfInBounds so (rt (top p v g1 g2 (sub (mine p t4 t6) (fp (mine p t4 t6) p))))) T (0, 0))) :
    w'.heap[a]? = some (.cells #[rt (if p.b = true then t4 else ins p v g1 g2 t4), rt (if p.b = true then ins p v g1 g2 t6 else t6), .int .i64 ((t4.toL ++ t6.toL).length : Nat)] T (0, 0)) := by
  obtain ⟨-, -, h1, h2⟩ := place hT (fp_ok _ p) hsl
  by_cases he : fp (mine p t4 t6) p = []
  · obtain ⟨rfl, rfl⟩ := h1 he
    have h3 := hslot _ _ hT.head
    rw [← ins_rt_nil he] at h3
    rw [h3, ← hao]
    unfold mine
    cases hb : p.b with
    | true => simp
    | false => simp
  · rw [hF.block a (some_lt hT.head) (fun hc => h2 he hc.symm), hT.head]
    have h3 := ins_rt (a := a) (ao := ao) (v := v) (g1 := g1) (g2 := g2) he
    unfold mine at h3
    cases hb : p.b with
    | true => rw [hb] at h3; simp only [if_true] at h3 ⊢; rw [h3]
    | false => rw [hb] at h3; simp only [Bool.false_eq_true, if_false] at h3 ⊢; rw [h3]
theorem own_mine {a : Nat} {p : Px} {t4 t6 : Tr} {k : Nat} (h : k ∈ blk (mine p t4 t6)) : own a t4 t6 k := by
  unfold mine at h
  split at h
  · exact .inr (.inr h)
  · exact .inr (.inl h)
theorem mine_other {N V T : TypeId} {w : World} {a : Nat} {t4 t6 : Tr} (hT : Tri N V T w a t4 t6) {p : Px} {k : Nat} (h : k ∈ blk (mine p t4 t6)) : k ∉ blk (other p t4 t6) ∧ k ≠ a := by
  have hnd := hT.nd
  rw [List.nodup_cons, List.nodup_append] at hnd
  obtain ⟨n1, n2, n3, n4⟩ := hnd
  refine ⟨fun hc => ?_, fun hc => (hT.mine_wf p).2.2.2.1 (hc ▸ h)⟩
  unfold mine at h
  unfold other at hc
  split at h
  · rename_i hb; rw [if_pos hb] at hc; exact n4 k hc k h rfl
  · rename_i hb; rw [if_neg hb] at hc; exact n4 k h k hc rfl
theorem other_in {N V T : TypeId} {w : World} {a : Nat} {t4 t6 : Tr} (hT : Tri N V T w a t4 t6) (p : Px) : In N V w (other p t4 t6) ∧ a ∉ blk (other p t4 t6) := by
  have hnd := hT.nd
  rw [List.nodup_cons, List.nodup_append] at hnd
  obtain ⟨n1, n2, n3, n4⟩ := hnd
  unfold other
  split
  · exact ⟨hT.i4, fun hc => n1 (List.mem_append.2 (.inl hc))⟩
  · exact ⟨hT.i6, fun hc => n1 (List.mem_append.2 (.inr hc))⟩
end Go.Proofs.YtnadendhboiliaaGreat
namespace Go.Proofs.YtnadendhboiliaaGreat
open Go.ChangeShapes Go.WideShapes Go.ChangeAt Go.RowKit
set_option linter.unusedVariables false

/-- What an address is in, of a list. -/
def inL (L : List (Px × Value)) (c : Bool) (ys : List Nat) : List (Px × Value) := L.filter fun e => has e.1 c ys
theorem pth_inL {N V T : TypeId} {w : World} {a : Nat} {t4 t6 : Tr} (hT : Tri N V T w a t4 t6) {c : Bool} {ys : List Nat} (hy : Bytes ys) : (pth c ys (if c = true then t6 else t4)).map keyOf = inL (t4.toL ++ t6.toL) c ys := by
  have hno : ∀ {t : Tr} {b : Bool}, (∀ q ∈ t.all, q.b = b) → b ≠ c → t.toL.filter (fun e => has e.1 c ys) = [] := fun hb hne => List.filter_eq_nil_iff.2 fun e he hc => hne ((hb _ (toL_all he)).symm.trans (has_iff.1 hc).2.2.1)
  unfold inL
  rw [List.filter_append]
  cases c with
  | true => rw [if_pos rfl, pth_toL hy hT.w6, hno hT.f4 (by decide), List.nil_append]
  | false => rw [if_neg (by decide), pth_toL hy hT.w4, hno hT.f6 (by decide), List.append_nil]
/-- A trie that holds a list, its blocks outside X. -/
def St (N V T : TypeId) (w : World) (a : Nat) (L : List (Px × Value)) (X : Nat → Prop) : Prop := ∃ t4 t6, Tri N V T w a t4 t6 ∧ t4.toL ++ t6.toL = L ∧ ∀ k, own a t4 t6 k → ¬ X k
theorem St.no {N V T : TypeId} {w w' : World} {a : Nat} {L : List (Px × Value)} {X : Nat → Prop} (h : St N V T w a L X) (hf : Fr No w w') : St N V T w' a L X := by
  obtain ⟨t4, t6, h1, h2, h3⟩ := h
  exact ⟨t4, t6, h1.no hf, h2, h3⟩
/-- What lies in X may change. -/
theorem St.fr {N V T : TypeId} {w w' : World} {a : Nat} {L : List (Px × Value)} {X S : Nat → Prop} (h : St N V T w a L X) (hf : Fr S w w') (hS : ∀ k, S k → X k) : St N V T w' a L X := by
  obtain ⟨t4, t6, h1, h2, h3⟩ := h
  exact ⟨t4, t6, h1.fr hf fun k hk hs => h3 k hk (hS k hs), h2, h3⟩
/-- New blocks may join X. -/
theorem St.add {N V T : TypeId} {w : World} {a : Nat} {L : List (Px × Value)} {X Y : Nat → Prop} (h : St N V T w a L X) (hY : ∀ k, Y k → X k ∨ w.heap.size ≤ k) : St N V T w a L Y := by
  obtain ⟨t4, t6, h1, h2, h3⟩ := h
  refine ⟨t4, t6, h1, h2, fun k hk hy => ?_⟩
  rcases hY k hy with h | h
  · exact h3 k hk h
  · have := h1.lt hk; omega
theorem St.srt {N V T : TypeId} {w : World} {a : Nat} {L : List (Px × Value)} {X : Nat → Prop} (h : St N V T w a L X) : Srt L ∧ ∀ e ∈ L, okP e.1 := by
  obtain ⟨t4, t6, h1, rfl, -⟩ := h
  refine ⟨both_srt h1.w4 h1.w6 h1.f4 h1.f6, fun e he => ?_⟩
  rcases List.mem_append.1 he with he | he
  · exact h1.w4.ok _ (toL_all he)
  · exact h1.w6.ok _ (toL_all he)
end Go.Proofs.YtnadendhboiliaaGreat
namespace Go.Proofs.YtnadendhboiliaaGreat
open Go.ChangeShapes Go.WideShapes Go.ChangeAt Go.RowKit
set_option linter.unusedVariables false

set_option maxHeartbeats 4000000 in
set_option maxRecDepth 100000 in
theorem pof_ref (b : Bool) (xs : List Nat) (n : Int) (hx : Bytes xs) (w : World) :
    Calls Tryz.prog 59 #[.agg (adr b xs).toArray, .int .i64 n] w fun e w' => e = .returned (.tuple #[.agg (pofT b xs n).toArray, .bool (pofB b xs n)]) ∧ Fr No w w' := by
  obtain ⟨Z, hZ⟩ : ∃ Z : Array Value, noP.toArray = Z := ⟨_, rfl⟩
  have v40 := zero29
  rw [hZ] at v40
  have hz18 : Z.size = 18 := by rw [← hZ]; rfl
  have hZ1 : ∀ u ∈ Z.toList, u.oneCell' = true := by rw [← hZ]; exact pfx_one _ _ _
  obtain ⟨A, hA, h0, hsz, -⟩ := adr_letter b xs hx
  have HVA : Hid (∀ w', Calls Tryz.prog 68 #[.agg A] w' fun e w'' => e = .returned (.bool (validA b xs)) ∧ Fr No w' w'') := fun w' => by rw [← hA]; exact valid_ref b xs hx w'
  have HBL : Hid (∀ w', Calls Tryz.prog 60 #[.agg A] w' fun e w'' => e = .returned (.int .i64 (bitsOf b)) ∧ Fr No w' w'') := fun w' => bitLen_R b A h0 w'
  obtain ⟨b1, b2, hF⟩ := alloc2 w (.cells A 25) (.cells Z 29)
  have HB : Hid (((w.alloc (.cells A 25)).alloc (.cells Z 29)).heap[w.heap.size]? = some (.cells A 25 (0, 0)) ∧ ((w.alloc (.cells A 25)).alloc (.cells Z 29)).heap[w.heap.size + 1]? = some (.cells Z 29 (0, 0)) ∧ Fr No w ((w.alloc (.cells A 25)).alloc (.cells Z 29))) := ⟨b1, b2, hF⟩
  clear b1 b2 hF
  have HZ := Lib.hid (And.intro hZ (And.intro hZ1 hA))
  have hfold := put_pfx b (pofX b xs n) n (pofX_bytes hx n).1
  have hT1 : ∀ u ∈ (pfx b (pofX b xs n) n).toArray.toList, u.oneCell' = true := by intro u hu; exact pfx_one _ _ _ u (by simpa using hu)
  have hT18 : (pfx b (pofX b xs n) n).toArray.size = 18 := by rw [List.size_toArray]; exact pfx_length (pofX_bytes hx n).1
  rw [hZ] at hfold
  have HX := Lib.hid hx
  have HT0 : Hid (pofT b xs n = (if pofB b xs n then pfx b (pofX b xs n) n else noP) ∧ pofB b xs n = (validA b xs && decide (0 ≤ n) && decide (n ≤ bitsOf b))) := ⟨rfl, rfl⟩
  obtain ⟨F, hFF⟩ : ∃ F : Array Value, (adr b (pofX b xs n)).toArray = F := ⟨_, rfl⟩
  have hF17 : F.size = 17 := by rw [← hFF, List.size_toArray, adr_length, (pofX_bytes hx n).1]
  obtain ⟨T, hTT⟩ : ∃ T : Array Value, (pfx b (pofX b xs n) n).toArray = T := ⟨_, rfl⟩
  rw [hFF] at hfold
  rw [hTT] at hfold hT1 hT18
  obtain ⟨M, hM⟩ : ∃ M, Array.foldl (fun (cs : Array Value) (x : Value × Nat) => cs.setIfInBounds x.snd x.fst) Z F.zipIdx 0 17 = M := ⟨_, rfl⟩
  rw [hM] at hfold
  have hMs : M.size = 18 := by have h := hT18; rw [← hfold, Array.size_setIfInBounds] at h; exact h
  have HT := Lib.hid (And.intro hTT (And.intro hT1 hT18))
  rw [hA]
  have HFA := Lib.hid hFF
  have HBO : Hid (0 ≤ bitsOf b ∧ bitsOf b ≤ 128) := bitsOf_le b
  have hFdef : Hid (∀ k B : Nat, (k : Int) = n → (B : Int) = bitsOf b → k ≤ B → pofX b xs n = clrs xs k (B - k)) := fun k B hk hB hkB => by rw [pofX, ← hk, ← hB]; congr 1; omega
  clear hZ hZ1 hA hx hFF hTT hT1
  generalize validA b xs = va at HVA HT0
  obtain ⟨L, hLL⟩ : ∃ L, bitsOf b = L := ⟨_, rfl⟩
  rw [hLL] at HBL HBO HT0 hFdef
  have HBB := Lib.hid hLL
  clear hLL
  have hV : ((va = true ∧ 0 ≤ n ∧ n ≤ L) ∨ va = false ∨ (va = true ∧ n < 0) ∨ (va = true ∧ 0 ≤ n ∧ L < n)) := by
    cases va
    · exact .inr (.inl rfl)
    · by_cases h1 : n < 0
      · exact .inr (.inr (.inl ⟨rfl, h1⟩))
      · by_cases h2 : L < n
        · exact .inr (.inr (.inr ⟨rfl, by omega, h2⟩))
        · exact .inl ⟨rfl, by omega, by omega⟩
  rcases hV with ⟨rfl, h1, h2⟩ | hbad
  · have HV : Hid (pofT b xs n = pfx b (pofX b xs n) n ∧ pofB b xs n = true) := by
      have h : pofB b xs n = true := by rw [HT0.out.2, decide_eq_true h1, decide_eq_true h2]; rfl
      exact ⟨by rw [HT0.out.1, if_pos h], h⟩
    obtain ⟨k, rfl⟩ : ∃ k : Nat, n = k := ⟨n.toNat, by omega⟩
    obtain ⟨B, rfl⟩ : ∃ B : Nat, L = B := ⟨L.toNat, by have := HBO.out; omega⟩
    have hB128 : B ≤ 128 := by have := HBO.out; omega
    have hkB : k ≤ B := by omega
    have hFD := hFdef.out k B rfl rfl hkB
    have p1 : decide ((k : Int) < 0) = false := decide_eq_false (by omega)
    have p2 : decide (B < k) = false := decide_eq_false (by omega)
    have HFD := Lib.hid hFD
    clear h1 h2 hFD hFdef HBO
    go_enter Tryz.func59, Tryz.ntmps59
    have t3 := Tryz.underlying3
    have u3 := Tryz.runUnderlying3
    have g3 := Tryz.isAgg3
    have z3 := Tryz.sizeOf3
    have t4 := Tryz.underlying4
    have u4 := Tryz.runUnderlying4
    have g4 := Tryz.isAgg4
    have z4 := Tryz.sizeOf4
    have t5 := Tryz.underlying5
    have u5 := Tryz.runUnderlying5
    have g5 := Tryz.isAgg5
    have z5 := Tryz.sizeOf5
    have t23 := Tryz.underlying23
    have u23 := Tryz.runUnderlying23
    have g23 := Tryz.isAgg23
    have z23 := Tryz.sizeOf23
    have t25 := Tryz.underlying25
    have u25 := Tryz.runUnderlying25
    have g25 := Tryz.isAgg25
    have z25 := Tryz.sizeOf25
    have t29 := Tryz.underlying29
    have u29 := Tryz.runUnderlying29
    have g29 := Tryz.isAgg29
    have z29 := Tryz.sizeOf29
    have t57 := Tryz.underlying57
    have u57 := Tryz.runUnderlying57
    have g57 := Tryz.isAgg57
    have z57 := Tryz.sizeOf57
    have c68 := Tryz.call68
    have c60 := Tryz.call60
    have mixed : Tryz.prog.follows .mixedOrders = true := by kernel_rfl
    obtain ⟨k30, hk30⟩ : ∃ k, k = 17 := ⟨_, rfl⟩
    rw [← hk30] at z25
    have nk30 : ¬ k30 = 0 := by omega
    have HK25 := Lib.hid hk30
    obtain ⟨k40, hk40⟩ : ∃ k, k = 18 := ⟨_, rfl⟩
    rw [← hk40] at z29
    have nk40 : ¬ k40 = 0 := by omega
    have HK29 := Lib.hid hk40
    have hP : Tryz.prog = PD := rfl
    rw [hP] at t3 u3 g3 z3 t4 u4 g4 z4 t5 u5 g5 z5 t23 u23 g23 z23 t25 u25 g25 z25 t29 u29 g29 z29 t57 u57 g57 z57 c68 c60 mixed v40 ⊢
    have HP := Lib.hid hP.symm
    clear hP hk30 hk40
    have hAk : A.size = k30 := by rw [HK25.out]; exact hsz
    have hZk : Z.size = k40 := by rw [HK29.out]; exact hz18
    have hTk : T.size = k40 := by rw [HK29.out]; exact HT.out.2.2
    have hMk : M.size = k40 := by rw [HK29.out]; exact hMs
    have hFk : F.size = k30 := by rw [HK25.out]; exact hF17
    rw [← HK25.out] at hM
    have i3 : k30 ≤ k40 := by have := HK25.out; have := HK29.out; omega
    have i4 : 17 < k40 := by have := HK29.out; omega
    have HLD : Hid (∀ w', Fr No ((w.alloc (.cells A 25)).alloc (.cells Z 29)) w' → Sem.run PD (loadCellsFrom ⟨w.heap.size, 0, none⟩ 0 k30 #[]) w' = .ok A w' ∧ w'.heap[w.heap.size + 1]? = some (.cells Z 29 (0, 0)) ∧ w'.heap[w.heap.size]? = some (.cells A 25 (0, 0))) := fun w' hf => ⟨load_block (hf.keep HB.out.1) hAk (fun j v hv => by simpa using hv), hf.keep HB.out.2.1, hf.keep HB.out.1⟩
    have hl0 := (HLD.out _ (Fr.refl _ _)).1
    have HSZ := Lib.hid (And.intro hsz hF17)
    have HM := Lib.hid hM
    clear hMs hT18 hz18 hsz hF17 hM
    go_wp2_with (first | (go_at_call 68; refine (at_prog HP.out (HVA.out _)).mono ?_; rintro e w3 ⟨rfl, hf3⟩; have hl3 := (HLD.out w3 hf3).1) | (go_at_call 60; refine (at_prog HP.out (HBL.out _)).mono ?_; rintro e w4 ⟨rfl, hf4⟩) | fail)
    have HN : Hid (Fr No w w4 ∧ w4.heap[w.heap.size]? = some (.cells A 25 (0, 0)) ∧ w4.heap[w.heap.size + 1]? = some (.cells Z 29 (0, 0))) := ⟨(HB.out.2.2.trans hf3).trans hf4, (HLD.out _ (hf3.trans hf4)).2.2, (HLD.out _ (hf3.trans hf4)).2.1⟩
    clear hf3 hf4 hl3 hl0
    obtain ⟨m, hm⟩ : ∃ m, w.heap.size = m := ⟨_, rfl⟩
    rw [hm] at HN ⊢
    have Hm := Lib.hid hm
    clear hm HLD HB
    go_loopg [6] (B - k + 1) (fun g s wr => ∃ i : Nat, s = .int .i64 i ∧ k ≤ i ∧ i ≤ B ∧ B - i < g ∧ Hid (Fr (fun k => k = m) w4 wr ∧ wr.heap[m]? = some (.cells (adr b (clrs xs k (i - k))).toArray 25 (0, 0))))
    case atStart =>
      refine ⟨k, by go_num, by omega, hkB, by omega, Fr.refl _ _, ?_⟩
      rw [Nat.sub_self, show clrs xs k 0 = xs from rfl, HZ.out.2.2]
      exact HN.out.2.1
    case round =>
      obtain ⟨i, rfl, hni, hiB, hig, HR⟩ := hrel
      have hcb := clrs_bytes (n := k) HX.out (i - k)
      obtain ⟨C, hC, h0c, hszc, hj⟩ := adr_letter b (clrs xs k (i - k)) hcb
      have hb1 := HR.out.2
      rw [hC] at hb1
      have HL : Hid (∀ w', Fr No wr w' → Sem.run PD (loadCellsFrom ⟨m, 0, none⟩ 0 k30 #[]) w' = .ok C w' ∧ w'.heap[m]? = some (.cells C 25 (0, 0))) := fun w' hf => ⟨load_block (hf.keep hb1) (by rw [HK25.out]; exact hszc) (fun j v hv => by simpa using hv), hf.keep hb1⟩
      have hl1 := (HL.out wr (Fr.refl _ _)).1
      have HBL2 : Hid (∀ w', Calls Tryz.prog 60 #[.agg C] w' fun e w'' => e = .returned (.int .i64 B) ∧ Fr No w' w'') := fun w' => by
        have h := bitLen_R b C h0c w'
        rw [HBB.out] at h
        exact h
      by_cases hi : i = B
      · have hCF : C = F := by rw [← hC, ← HFA.out, HFD.out, hi]
        subst hCF
        have HSTO : Hid (∀ w', Fr No wr w' → ∃ y, Sem.run PD (storeCells ⟨m + 1, 0, none⟩ T.toList 0) w' = .ok () y ∧ y.heap[m + 1]? = some (.cells T 29 (0, 0)) ∧ Fr No w y) := fun w' hf => by
          have hbn : w'.heap[m + 1]? = some (.cells Z 29 (0, 0)) := hf.keep ((HR.out.1.block (m + 1) (Array.getElem?_eq_some_iff.1 HN.out.2.2).1 (by omega)).trans HN.out.2.2)
          obtain ⟨y, hst, hyb, hyf⟩ := store_all (P := PD) T.toList hbn (by rw [Array.length_toList, hTk, hZk]) HT.out.2.1
          refine ⟨y, hst, by simpa using hyb, ?_⟩
          refine ((HN.out.1.ofNew HR.out.1 fun k hk => .inr (by rw [Hm.out, hk]; exact Nat.le_refl _)).trans hf).ofNew hyf fun k hk => .inr (by rw [Hm.out, hk]; omega)
        have hib : ¬ (i : Int) < (B : Int) := by omega
        have hM := HM.out
        clear hszc
        go_wp2_with (first | (go_at_call 60; refine (at_prog HP.out (HBL2.out _)).mono ?_; rintro e w5 ⟨rfl, hf5⟩; have hl5 := (HL.out w5 hf5).1; obtain ⟨y, hst, hyb, hyf⟩ := HSTO.out w5 hf5) | fail)
        refine bodyPost_ret_by (results_agg_tmp rfl _ (b := m + 1) (k := 18) (cs := T) (Tryz.isAgg29 _) (Tryz.sizeOf29 _) rfl (load_block hyb HT.out.2.2 (fun j v hv => by simpa using hv))) rfl ?_
        exact ⟨by rw [HV.out.1, HV.out.2, HT.out.1]; rfl, hyf⟩
      · have q2 : (i : Int) < (B : Int) := by omega
        have hi16 : i / 8 < 16 := by omega
        obtain ⟨x, hxn⟩ : ∃ x, (clrs xs k (i - k))[i / 8]? = some x := ⟨_, List.getElem?_eq_getElem (by rw [hcb.1]; exact hi16)⟩
        have hx255 : x < 256 := hcb.2 x (List.mem_of_getElem? hxn)
        have HC : Hid (∀ w', Fr No wr w' → w'.cell? ⟨m, 1 + i / 8, none⟩ = some (.int .u8 x) ∧ w'.frozen? ⟨m, 1 + i / 8, none⟩ = false) := fun w' hf => by
          have hb' := (HL.out w' hf).2
          exact ⟨by rw [cell_of_row _ _ _ _ _ _ hb']; exact hj _ _ hxn, frozen_of_row _ _ _ _ _ hb'⟩
        have hbits : bits .andNot .u8 (x : Int) (2 ^ (7 - i % 8) % 256) = ((offB x (7 - i % 8) : Nat) : Int) := by
          rw [← bits_off hx255 (m := 7 - i % 8) (by omega)]
          have h := pow_lt_256 (m := 7 - i % 8) (by omega)
          have e : (2 : Int) ^ (7 - i % 8) % 256 = ((2 ^ (7 - i % 8) : Nat) : Int) := by
            rw [show (2 : Int) ^ (7 - i % 8) = ((2 ^ (7 - i % 8) : Nat) : Int) by simp]
            generalize 2 ^ (7 - i % 8) = q at h ⊢
            omega
          rw [e]
        have HX : Hid (x < 256 ∧ (clrs xs k (i - k)).set (i / 8) (offB x (7 - i % 8)) = clrs xs k (i + 1 - k)) := ⟨hx255, by
          rw [show i + 1 - k = i - k + 1 by omega, clrs, clr, show k + (i - k) = i by omega, List.getD_eq_getElem?_getD, hxn]; rfl⟩
        have HB0 : Hid ((adr b (clrs xs k (i - k))).toArray = C) := hC
        have HBT := Lib.hid hbits
        clear hb1 hC hj h0c hbits
        go_wp2_with (first | (go_at_call 60; refine (at_prog HP.out (HBL2.out _)).mono ?_; rintro e w5 ⟨rfl, hf5⟩; have hl5 := (HL.out w5 hf5).1; have c3 := (HC.out w5 hf5).1; have c4 := (HC.out w5 hf5).2) | fail)
        rw [HBT.out]
        have HW : Hid (Fr (fun k => k = m) w4 (w5.setCell ⟨m, 1 + i / 8, none⟩ (.int .u8 (offB x (7 - i % 8) : Nat))) ∧ (w5.setCell ⟨m, 1 + i / 8, none⟩ (.int .u8 (offB x (7 - i % 8) : Nat))).heap[m]? = some (.cells (adr b (clrs xs k (i + 1 - k))).toArray 25 (0, 0))) := by
          have hb3 : w5.heap[m]? = some (.cells (adr b (clrs xs k (i - k))).toArray 25 (0, 0)) := by rw [HB0.out]; exact (HL.out w5 hf5).2
          refine ⟨(HR.out.1.trans hf5.no).trans (Fr.setCell (fun k => k = m) _ _ _ rfl), ?_⟩
          have e1 := adr_set (i := i / 8) (x := offB x (7 - i % 8)) hb3
          rw [HX.out.2] at e1
          exact e1
        generalize w5.setCell ⟨m, 1 + i / 8, none⟩ (.int .u8 (offB x (7 - i % 8) : Nat)) = w6 at HW ⊢
        go_roundg (B - i)
        case measure => exact hig
        case rel => exact ⟨i + 1, by go_num, by omega, by omega, by omega, HW.out.1, HW.out.2⟩
  · have HV : Hid (pofT b xs n = noP ∧ pofB b xs n = false) := by
      have h : pofB b xs n = false := by
        rw [HT0.out.2]
        rcases hbad with rfl | ⟨rfl, h⟩ | ⟨rfl, h, k⟩
        · rfl
        · rw [decide_eq_false (by omega : ¬ 0 ≤ n)]; rfl
        · rw [decide_eq_false (by omega : ¬ n ≤ L)]; simp
      exact ⟨by rw [HT0.out.1, if_neg (by rw [h]; simp)], h⟩
    clear hfold hT18 hF17 hMs hM
    rcases hbad with rfl | ⟨rfl, p1⟩ | ⟨rfl, p0, p2⟩
    · go_enter Tryz.func59, Tryz.ntmps59
      have t3 := Tryz.underlying3
      have u3 := Tryz.runUnderlying3
      have g3 := Tryz.isAgg3
      have z3 := Tryz.sizeOf3
      have t4 := Tryz.underlying4
      have u4 := Tryz.runUnderlying4
      have g4 := Tryz.isAgg4
      have z4 := Tryz.sizeOf4
      have t5 := Tryz.underlying5
      have u5 := Tryz.runUnderlying5
      have g5 := Tryz.isAgg5
      have z5 := Tryz.sizeOf5
      have t23 := Tryz.underlying23
      have u23 := Tryz.runUnderlying23
      have g23 := Tryz.isAgg23
      have z23 := Tryz.sizeOf23
      have t25 := Tryz.underlying25
      have u25 := Tryz.runUnderlying25
      have g25 := Tryz.isAgg25
      have z25 := Tryz.sizeOf25
      have t29 := Tryz.underlying29
      have u29 := Tryz.runUnderlying29
      have g29 := Tryz.isAgg29
      have z29 := Tryz.sizeOf29
      have t57 := Tryz.underlying57
      have u57 := Tryz.runUnderlying57
      have g57 := Tryz.isAgg57
      have z57 := Tryz.sizeOf57
      have c68 := Tryz.call68
      have c60 := Tryz.call60
      have mixed : Tryz.prog.follows .mixedOrders = true := by kernel_rfl
      obtain ⟨k30, hk30⟩ : ∃ k, k = 17 := ⟨_, rfl⟩
      rw [← hk30] at z25
      have nk30 : ¬ k30 = 0 := by omega
      have HK25 := Lib.hid hk30
      obtain ⟨k40, hk40⟩ : ∃ k, k = 18 := ⟨_, rfl⟩
      rw [← hk40] at z29
      have nk40 : ¬ k40 = 0 := by omega
      have HK29 := Lib.hid hk40
      have hP : Tryz.prog = PD := rfl
      rw [hP] at t3 u3 g3 z3 t4 u4 g4 z4 t5 u5 g5 z5 t23 u23 g23 z23 t25 u25 g25 z25 t29 u29 g29 z29 t57 u57 g57 z57 c68 c60 mixed v40 ⊢
      have HP := Lib.hid hP.symm
      clear hP hk30 hk40
      have hAk : A.size = k30 := by rw [HK25.out]; exact hsz
      have hZk : Z.size = k40 := by rw [HK29.out]; exact hz18
      have HLD : Hid (∀ w', Fr No ((w.alloc (.cells A 25)).alloc (.cells Z 29)) w' → Sem.run PD (loadCellsFrom ⟨w.heap.size, 0, none⟩ 0 k30 #[]) w' = .ok A w' ∧ w'.heap[w.heap.size + 1]? = some (.cells Z 29 (0, 0))) := fun w' hf => ⟨load_block (hf.keep HB.out.1) hAk (fun j v hv => by simpa using hv), hf.keep HB.out.2.1⟩
      have HZ18 := Lib.hid hz18
      have hl0 := (HLD.out _ (Fr.refl _ _)).1
      clear hz18 hsz
      go_wp2_with (first | (go_at_call 68; refine (at_prog HP.out (HVA.out _)).mono ?_; rintro e w3 ⟨rfl, hf3⟩; have hl3 := (HLD.out w3 hf3).1; obtain ⟨y, hst, hyb, hyf⟩ := store_all (P := PD) Z.toList (HLD.out w3 hf3).2 (by rw [Array.length_toList]) HZ.out.2.1) | fail)
      refine bodyPost_ret_by (results_agg_tmp rfl _ (b := w.heap.size + 1) (k := 18) (cs := Z) (Tryz.isAgg29 _) (Tryz.sizeOf29 _) rfl (load_block hyb HZ18.out (fun j v hv => by simpa using hv))) rfl ?_
      exact ⟨by rw [HV.out.1, HV.out.2, HZ.out.1]; rfl, (HB.out.2.2.trans hf3).ofNew hyf fun k hk => .inr (by rw [hk]; omega)⟩
    · go_enter Tryz.func59, Tryz.ntmps59
      have t3 := Tryz.underlying3
      have u3 := Tryz.runUnderlying3
      have g3 := Tryz.isAgg3
      have z3 := Tryz.sizeOf3
      have t4 := Tryz.underlying4
      have u4 := Tryz.runUnderlying4
      have g4 := Tryz.isAgg4
      have z4 := Tryz.sizeOf4
      have t5 := Tryz.underlying5
      have u5 := Tryz.runUnderlying5
      have g5 := Tryz.isAgg5
      have z5 := Tryz.sizeOf5
      have t23 := Tryz.underlying23
      have u23 := Tryz.runUnderlying23
      have g23 := Tryz.isAgg23
      have z23 := Tryz.sizeOf23
      have t25 := Tryz.underlying25
      have u25 := Tryz.runUnderlying25
      have g25 := Tryz.isAgg25
      have z25 := Tryz.sizeOf25
      have t29 := Tryz.underlying29
      have u29 := Tryz.runUnderlying29
      have g29 := Tryz.isAgg29
      have z29 := Tryz.sizeOf29
      have t57 := Tryz.underlying57
      have u57 := Tryz.runUnderlying57
      have g57 := Tryz.isAgg57
      have z57 := Tryz.sizeOf57
      have c68 := Tryz.call68
      have c60 := Tryz.call60
      have mixed : Tryz.prog.follows .mixedOrders = true := by kernel_rfl
      obtain ⟨k30, hk30⟩ : ∃ k, k = 17 := ⟨_, rfl⟩
      rw [← hk30] at z25
      have nk30 : ¬ k30 = 0 := by omega
      have HK25 := Lib.hid hk30
      obtain ⟨k40, hk40⟩ : ∃ k, k = 18 := ⟨_, rfl⟩
      rw [← hk40] at z29
      have nk40 : ¬ k40 = 0 := by omega
      have HK29 := Lib.hid hk40
      have hP : Tryz.prog = PD := rfl
      rw [hP] at t3 u3 g3 z3 t4 u4 g4 z4 t5 u5 g5 z5 t23 u23 g23 z23 t25 u25 g25 z25 t29 u29 g29 z29 t57 u57 g57 z57 c68 c60 mixed v40 ⊢
      have HP := Lib.hid hP.symm
      clear hP hk30 hk40
      have hAk : A.size = k30 := by rw [HK25.out]; exact hsz
      have hZk : Z.size = k40 := by rw [HK29.out]; exact hz18
      have HLD : Hid (∀ w', Fr No ((w.alloc (.cells A 25)).alloc (.cells Z 29)) w' → Sem.run PD (loadCellsFrom ⟨w.heap.size, 0, none⟩ 0 k30 #[]) w' = .ok A w' ∧ w'.heap[w.heap.size + 1]? = some (.cells Z 29 (0, 0))) := fun w' hf => ⟨load_block (hf.keep HB.out.1) hAk (fun j v hv => by simpa using hv), hf.keep HB.out.2.1⟩
      have HZ18 := Lib.hid hz18
      have hl0 := (HLD.out _ (Fr.refl _ _)).1
      clear hz18 hsz
      go_wp2_with (first | (go_at_call 68; refine (at_prog HP.out (HVA.out _)).mono ?_; rintro e w3 ⟨rfl, hf3⟩; have hl3 := (HLD.out w3 hf3).1; obtain ⟨y, hst, hyb, hyf⟩ := store_all (P := PD) Z.toList (HLD.out w3 hf3).2 (by rw [Array.length_toList]) HZ.out.2.1) | fail)
      refine bodyPost_ret_by (results_agg_tmp rfl _ (b := w.heap.size + 1) (k := 18) (cs := Z) (Tryz.isAgg29 _) (Tryz.sizeOf29 _) rfl (load_block hyb HZ18.out (fun j v hv => by simpa using hv))) rfl ?_
      exact ⟨by rw [HV.out.1, HV.out.2, HZ.out.1]; rfl, (HB.out.2.2.trans hf3).ofNew hyf fun k hk => .inr (by rw [hk]; omega)⟩
    · have p1 : ¬ n < 0 := by omega
      clear p0
      go_enter Tryz.func59, Tryz.ntmps59
      have t3 := Tryz.underlying3
      have u3 := Tryz.runUnderlying3
      have g3 := Tryz.isAgg3
      have z3 := Tryz.sizeOf3
      have t4 := Tryz.underlying4
      have u4 := Tryz.runUnderlying4
      have g4 := Tryz.isAgg4
      have z4 := Tryz.sizeOf4
      have t5 := Tryz.underlying5
      have u5 := Tryz.runUnderlying5
      have g5 := Tryz.isAgg5
      have z5 := Tryz.sizeOf5
      have t23 := Tryz.underlying23
      have u23 := Tryz.runUnderlying23
      have g23 := Tryz.isAgg23
      have z23 := Tryz.sizeOf23
      have t25 := Tryz.underlying25
      have u25 := Tryz.runUnderlying25
      have g25 := Tryz.isAgg25
      have z25 := Tryz.sizeOf25
      have t29 := Tryz.underlying29
      have u29 := Tryz.runUnderlying29
      have g29 := Tryz.isAgg29
      have z29 := Tryz.sizeOf29
      have t57 := Tryz.underlying57
      have u57 := Tryz.runUnderlying57
      have g57 := Tryz.isAgg57
      have z57 := Tryz.sizeOf57
      have c68 := Tryz.call68
      have c60 := Tryz.call60
      have mixed : Tryz.prog.follows .mixedOrders = true := by kernel_rfl
      obtain ⟨k30, hk30⟩ : ∃ k, k = 17 := ⟨_, rfl⟩
      rw [← hk30] at z25
      have nk30 : ¬ k30 = 0 := by omega
      have HK25 := Lib.hid hk30
      obtain ⟨k40, hk40⟩ : ∃ k, k = 18 := ⟨_, rfl⟩
      rw [← hk40] at z29
      have nk40 : ¬ k40 = 0 := by omega
      have HK29 := Lib.hid hk40
      have hP : Tryz.prog = PD := rfl
      rw [hP] at t3 u3 g3 z3 t4 u4 g4 z4 t5 u5 g5 z5 t23 u23 g23 z23 t25 u25 g25 z25 t29 u29 g29 z29 t57 u57 g57 z57 c68 c60 mixed v40 ⊢
      have HP := Lib.hid hP.symm
      clear hP hk30 hk40
      have hAk : A.size = k30 := by rw [HK25.out]; exact hsz
      have hZk : Z.size = k40 := by rw [HK29.out]; exact hz18
      have HLD : Hid (∀ w', Fr No ((w.alloc (.cells A 25)).alloc (.cells Z 29)) w' → Sem.run PD (loadCellsFrom ⟨w.heap.size, 0, none⟩ 0 k30 #[]) w' = .ok A w' ∧ w'.heap[w.heap.size + 1]? = some (.cells Z 29 (0, 0))) := fun w' hf => ⟨load_block (hf.keep HB.out.1) hAk (fun j v hv => by simpa using hv), hf.keep HB.out.2.1⟩
      have HZ18 := Lib.hid hz18
      have hl0 := (HLD.out _ (Fr.refl _ _)).1
      clear hz18 hsz
      go_wp2_with (first | (go_at_call 68; refine (at_prog HP.out (HVA.out _)).mono ?_; rintro e w3 ⟨rfl, hf3⟩; have hl3 := (HLD.out w3 hf3).1; skip) | (go_at_call 60; refine (at_prog HP.out (HBL.out _)).mono ?_; rintro e w4 ⟨rfl, hf4⟩; obtain ⟨y, hst, hyb, hyf⟩ := store_all (P := PD) Z.toList (HLD.out w4 (hf3.trans hf4)).2 (by rw [Array.length_toList]) HZ.out.2.1) | fail)
      refine bodyPost_ret_by (results_agg_tmp rfl _ (b := w.heap.size + 1) (k := 18) (cs := Z) (Tryz.isAgg29 _) (Tryz.sizeOf29 _) rfl (load_block hyb HZ18.out (fun j v hv => by simpa using hv))) rfl ?_
      exact ⟨by rw [HV.out.1, HV.out.2, HZ.out.1]; rfl, ((HB.out.2.2.trans hf3).trans hf4).ofNew hyf fun k hk => .inr (by rw [hk]; omega)⟩
end Go.Proofs.YtnadendhboiliaaGreat
