/-
  THE LAW TrieSeparatesFamilies: its walk.
  Conditions: none of its own.
-/
import Derived.Test.YtnbohhiooigmbaaXnB
import Derived.Test.YtnbohhiooigmbaaAw
import Derived.Test.YtnbohhiooigmbaaL5p
import Derived.Test.YtnbohhiooigmbaaGb
import Derived.Test.YtnbohhiooigmbaaCf
import Derived.Deep.DeepCutAuto
import Derived.Deep.CutBlock
namespace Go.Proofs.Ytnbohhiooigmbaa
open Go.ChangeShapes Go.WideShapes Go.ChangeAt Go.RowKit
set_option linter.unusedVariables false

set_option maxHeartbeats 8000000 in
set_option maxRecDepth 100000 in
theorem separates_walk (b : Bool) (xs : List Nat) (n : Int) (hx : Bytes xs) (w : World) : Calls Try.prog 5 #[.agg (adr b xs).toArray, .int .i64 n] w fun e w' => e = .returned (.bool true) ∧ Fr No w w' := by
  obtain ⟨m, hm, hmod⟩ := mod_fix n 33 (by decide) (by decide)
  obtain ⟨A, hA, -, hAs, -⟩ := adr_letter b xs hx
  obtain ⟨Z, hZ⟩ : ∃ Z : Array Value, noP.toArray = Z := ⟨_, rfl⟩
  obtain ⟨Y, hY⟩ : ∃ Y : Array Value, (adr false zeros).toArray = Y := ⟨_, rfl⟩
  have v31 := zero31
  rw [hZ] at v31
  have v29 := zero29
  rw [hY] at v29
  have hZs : Z.size = 18 := by rw [← hZ]; rfl
  have hYs : Y.size = 17 := by rw [← hY]; rfl
  obtain ⟨V6, hV6⟩ : ∃ V6 : Array Value, (pfx true zeros 0).toArray = V6 := ⟨_, rfl⟩
  have hV6s : V6.size = 18 := by rw [← hV6]; rfl
  have HNEW : Hid (∀ (w' : World) (X : Nat → Prop), (∀ k, X k → k < w'.heap.size) → Calls Try.prog 27 #[] w' fun e w'' => ∃ a, e = .returned (.pointer (some ⟨a, 0, none⟩)) ∧ w'.heap.size ≤ a ∧ Fr No w' w'' ∧ StB w'' a [] X) := newSB
  have HI1 : Hid (∀ (w' : World) (a : Nat) (X : Nat → Prop), StB w' a [] X → (∀ k, X k → k < w'.heap.size) → Calls Try.prog 28 #[.pointer (some ⟨a, 0, none⟩), .agg Z, .bool true] w' fun e w'' => e = .returned (.bool true) ∧ StB w'' a (L0 tTr) X ∧ Fr (fun k => ¬ X k) w' w'') := fun w' a X h1 h2 => by
    have h := insertSB h1 h2 (by decide) (p0 false) zB tTr ⟨_, rfl⟩
    rw [valid0, if_pos rfl, put0, show (pfx (p0 false).b (p0 false).xs (p0 false).n).toArray = Z from hZ] at h
    exact h
  have HI2 : Hid (∀ (w' : World) (a : Nat) (X : Nat → Prop), StB w' a (L0 tTr) X → (∀ k, X k → k < w'.heap.size) → Calls Try.prog 28 #[.pointer (some ⟨a, 0, none⟩), .agg V6, .bool true] w' fun e w'' => e = .returned (.bool true) ∧ StB w'' a (L2 tTr) X ∧ Fr (fun k => ¬ X k) w' w'') := fun w' a X h1 h2 => by
    have h := insertSB h1 h2 (by show 1 ≤ _; decide) (p0 true) zB tTr ⟨_, rfl⟩
    rw [valid0, if_pos rfl, put6, show (pfx (p0 true).b (p0 true).xs (p0 true).n).toArray = V6 from hV6] at h
    exact h
  have HD1 : Hid (∀ (w' : World) (a : Nat) (X : Nat → Prop), StB w' a (L2 tTr) X → (∀ k, X k → k < w'.heap.size) → Calls Try.prog 32 #[.pointer (some ⟨a, 0, none⟩), .agg V6] w' fun e w'' => e = .returned (.bool true) ∧ StB w'' a (L0 tTr) X ∧ Fr (fun k => ¬ X k) w' w'') := fun w' a X h1 h2 => by
    have h := deleteSB h1 h2 (by show 2 ≤ _; decide) (p0 true) zB
    rw [val2, show (some tTr : Option Value).isSome = true from rfl, if_pos rfl, del2, show (pfx (p0 true).b (p0 true).xs (p0 true).n).toArray = V6 from hV6] at h
    exact h
  have HD2 : Hid (∀ (w' : World) (a : Nat) (X : Nat → Prop), StB w' a (L0 tTr) X → (∀ k, X k → k < w'.heap.size) → Calls Try.prog 32 #[.pointer (some ⟨a, 0, none⟩), .agg V6] w' fun e w'' => e = .returned (.bool false) ∧ StB w'' a (L0 tTr) X ∧ Fr (fun k => ¬ X k) w' w'') := fun w' a X h1 h2 => by
    have h := deleteSB h1 h2 (by show 1 ≤ _; decide) (p0 true) zB
    rw [val0, show (none : Option Value).isSome = false from rfl, if_neg (by decide), show (pfx (p0 true).b (p0 true).xs (p0 true).n).toArray = V6 from hV6] at h
    exact h
  have HSA : Hid (∀ w', Calls Try.prog 18 #[.agg A] w' (GenB w')) := fun w' => by rw [← hA]; exact saddr_gen b xs hx w'
  have hgx : Bytes (genX b xs) := gen_bytes hx
  have hgv : validA b (genX b xs) = true := gen_valid b xs
  obtain ⟨G, hG⟩ : ∃ G : Array Value, (adr b (genX b xs)).toArray = G := ⟨_, rfl⟩
  have HVA : Hid (∀ w', Calls Try.prog 21 #[.agg A] w' fun e w'' => e = .returned (.agg G) ∧ Fr No w' w'') := fun w' => by rw [← hA, ← hG]; exact validAddr_gen b xs hx w'
  obtain ⟨QP, hQ, -, hQ17, hQs, -, hQ1⟩ := pfx_letter b (pofX b (genX b xs) m) m (pofX_bytes hgx _)
  have HPO : Hid (∀ w', Calls Try.prog 23 #[.agg G, .int .i64 m] w' fun e w'' => e = .returned (.tuple #[.agg QP, .bool true]) ∧ Fr No w' w'') := fun w' => by
    have h := pof_ref b (genX b xs) m hgx w'
    rw [pofT, pof_q hgv hm, if_pos rfl, hQ, hG] at h
    exact h
  obtain ⟨gv, hgv'⟩ : ∃ gv : Value, gv = (valL (L2 tTr) ⟨b, pofX b (genX b xs) m, m⟩).getD (.bool false) := ⟨_, rfl⟩
  have HGE : Hid (∀ (w' : World) (a : Nat) (X : Nat → Prop), StB w' a (L2 tTr) X → Calls Try.prog 31 #[.pointer (some ⟨a, 0, none⟩), .agg QP] w' fun e w'' => e = .returned (.tuple #[gv, .bool (decide ((m : Int) = 0))]) ∧ Fr No w' w'') := fun w' a X h1 => by
    have h := getSB h1 ⟨b, pofX b (genX b xs) m, m⟩ (pofX_bytes hgx _)
    rw [val_q tTr hgx hgv m, ← hgv', hQ, show decide (m = 0) = decide ((m : Int) = 0) by simp] at h
    exact h
  have HMO : Hid (∀ w', Calls Try.prog 9 #[.int .i64 n, .int .i64 33] w' fun e w'' => e = .returned (.int .i64 m) ∧ w'' = w') := hmod
  have HW := Lib.hid (And.intro hA (And.intro hZ (And.intro hY (And.intro hV6 (And.intro hQ hQ1)))))
  rw [hA]
  clear hmod hgv' hG hgx hgv hA hQ1 hQ hm
  go_enter Try.func5, Try.ntmps5
  have t3 := Try.underlying3
  have u3 := Try.runUnderlying3
  have g3 := Try.isAgg3
  have z3 := Try.sizeOf3
  have t4 := Try.underlying4
  have u4 := Try.runUnderlying4
  have g4 := Try.isAgg4
  have z4 := Try.sizeOf4
  have t27 := Try.underlying27
  have u27 := Try.runUnderlying27
  have g27 := Try.isAgg27
  have z27 := Try.sizeOf27
  have t29 := Try.underlying29
  have u29 := Try.runUnderlying29
  have g29 := Try.isAgg29
  have z29 := Try.sizeOf29
  have t31 := Try.underlying31
  have u31 := Try.runUnderlying31
  have g31 := Try.isAgg31
  have z31 := Try.sizeOf31
  have t61 := Try.underlying61
  have u61 := Try.runUnderlying61
  have g61 := Try.isAgg61
  have z61 := Try.sizeOf61
  have c9 := Try.call9
  have c18 := Try.call18
  have c20 := Try.call20
  have c21 := Try.call21
  have c23 := Try.call23
  have c27 := Try.call27
  have c28 := Try.call28
  have c29 := Try.call29
  have c30 := Try.call30
  have c31 := Try.call31
  have c32 := Try.call32
  have c33 := Try.call33
  have mixed : Try.prog.follows .mixedOrders = true := by kernel_rfl
  obtain ⟨k30, hk30⟩ : ∃ k, k = 17 := ⟨_, rfl⟩
  rw [← hk30] at z29
  have nk30 : ¬ k30 = 0 := by omega
  have HK29 := Lib.hid hk30
  obtain ⟨k40, hk40⟩ : ∃ k, k = 18 := ⟨_, rfl⟩
  rw [← hk40] at z31
  have nk40 : ¬ k40 = 0 := by omega
  have HK31 := Lib.hid hk40
  have hP : Try.prog = PD := rfl
  rw [hP] at t3 u3 g3 z3 t4 u4 g4 z4 t27 u27 g27 z27 t29 u29 g29 z29 t31 u31 g31 z31 t61 u61 g61 z61 c9 c18 c20 c21 c23 c27 c28 c29 c30 c31 c32 c33 mixed v31 v29 ⊢
  have HP := Lib.hid hP.symm
  clear hP hk30 hk40
  have hZk : Z.size = k40 := by rw [HK31.out]; exact hZs
  have hYk : Y.size = k30 := by rw [HK29.out]; exact hYs
  have hAk : A.size = k30 := by rw [HK29.out]; exact hAs
  have h6k : V6.size = k40 := by rw [HK31.out]; exact hV6s
  have hQk : QP.size = k40 := by rw [HK31.out]; exact hQs
  clear hZs hYs hAs hV6s hQs
  go_upto_region 2 with (first | (go_at_call 27; go_loud (refine (at_prog HP.out (HNEW.out _ (fun k => k < (w.alloc (.cells A 29)).heap.size) (fun k hk => hk))).mono ?_; rintro e w1 ⟨a, rfl, ha, hf1, hS1⟩)) | fail)
  obtain ⟨w0, hw0⟩ : ∃ w0, w.alloc (.cells A 29) = w0 := ⟨_, rfl⟩
  obtain ⟨b0, hb0⟩ : ∃ b0, w.heap.size = b0 := ⟨_, rfl⟩
  have F0 : Fr No w w0 := by rw [← hw0]; exact Fr.alloc No w _
  have k0 : w0.heap[b0]? = some (.cells A 29 (0, 0)) := by rw [← hw0, ← hb0]; exact heap_alloc_new w _
  rw [hw0] at ha hf1 hS1
  rw [hb0]
  go_upto_region 6 with (first | (go_at_call 28; ((with_reducible refine (at_prog HP.out (HI1.out _ a _ hS1 (fun k hk => Nat.lt_of_lt_of_le hk hf1.size))).mono ?_); rintro e w2 ⟨rfl, hS2, hf2⟩; have k02 := (hf2.block b0 (Nat.lt_of_lt_of_le (some_lt k0) hf1.size) (fun hc => absurd (some_lt k0) hc)).trans (hf1.keep k0); have lA2 : Sem.run PD (loadCellsFrom ⟨b0, 0, none⟩ 0 k30 #[]) w2 = .ok A w2 := load_block k02 hAk (fun j v hv => by simpa using hv))) | (go_at_call 18; ((with_reducible refine (at_prog HP.out (HSA.out _)).mono ?_); rintro e w3 ⟨c, ys, hy, rfl, hf3⟩; obtain ⟨C, hC, hC0, hCs, -⟩ := adr_letter c ys hy; have hCk : C.size = k30 := by { rw [HK29.out]; exact hCs }; obtain ⟨y3, hst3, hyb3, hyf3⟩ := store_all (P := PD) C.toList (heap_alloc_new w3 (.cells Y 29)) (by rw [Array.length_toList, hCs, hYk, HK29.out]) (by rw [← hC]; exact adr_one c ys); have K3 : Fr No w2 y3 := (hf3.trans (Fr.alloc No w3 (.cells Y 29))).ofNew hyf3 (fun k hk => .inr (by rw [hk]; exact hf3.size)); have lC3 : Sem.run PD (loadCellsFrom ⟨w3.heap.size, 0, none⟩ 0 k30 #[]) y3 = .ok C y3 := load_block hyb3 (by rw [HK29.out]; exact hCs) (fun j v hv => by simpa using hv); rw [hC])) | (go_at_call 29; ((with_reducible refine (at_prog HP.out (show Calls Try.prog 29 #[.pointer (some ⟨a, 0, none⟩), .agg C] _ _ by rw [← hC]; exact lookup0 (hS2.no K3) c ys hy)).mono ?_); rintro e w4 ⟨rfl, hf4⟩; rw [show (pfx false zeros 0).toArray = Z from HW.out.2.1]; obtain ⟨y4, hst4, hyb4, hyf4⟩ := store_all (P := PD) Z.toList (heap_alloc_new w4 (.cells Z 31)) (by rw [Array.length_toList]) (by rw [← HW.out.2.1]; exact pfx_one _ _ _); have K4 : Fr No y3 y4 := (hf4.trans (Fr.alloc No w4 (.cells Z 31))).ofNew hyf4 (fun k hk => .inr (by rw [hk]; exact hf4.size)))) | fail)
  obtain ⟨b6, hb6⟩ : ∃ b6, w3.heap.size = b6 := ⟨_, rfl⟩
  obtain ⟨va, hva⟩ : ∃ va, validA c ys = va := ⟨_, rfl⟩
  obtain ⟨P2, hP2, hP20, hP217, hP2s, -, hP21⟩ := pfx_letter (c && va) zeros 0 zB
  have HVL : Hid (∀ w', Calls Try.prog 30 #[.agg C] w' fun e w'' => e = .returned (.bool va) ∧ Fr No w' w'') := fun w' => by rw [← hC, ← hva]; exact valid_ref c ys hy w'
  have HL2 : Hid (∀ (w' : World) (X : Nat → Prop), StB w' a (L2 tTr) X → Calls Try.prog 29 #[.pointer (some ⟨a, 0, none⟩), .agg C] w' fun e w'' => e = .returned (.tuple #[.agg P2, .bool va, .bool va]) ∧ Fr No w' w'') := fun w' X h1 => by
    have h := lookup2 h1 c ys hy
    rw [hC, hva, hP2] at h
    exact h
  rw [hb6] at hyb3 lC3 hst3
  have k6 : y4.heap[b6]? = some (.cells C 29 (0, 0)) := by simpa using K4.keep hyb3
  have c60 : y4.cell? ⟨b6, 0, none⟩ = some (.bool c) := by rw [cell_of_row _ _ _ _ _ _ k6]; exact hC0
  have l6 : Sem.run PD (loadCellsFrom ⟨b6, 0, none⟩ 0 k30 #[]) y4 = .ok C y4 := load_block k6 (by rw [HK29.out]; exact hCs) (fun j v hv => by simpa using hv)
  have H4 : Hid (Fr No w y4 ∧ (∀ k, ¬ k < w0.heap.size → w.heap.size ≤ k) ∧ w2.heap.size ≤ b6 ∧ w0.heap.size ≤ w2.heap.size ∧ Fr No w2 y4 ∧ StB w2 a (L0 tTr) (fun k => k < w0.heap.size) ∧ y4.heap[b0]? = some (.cells A 29 (0, 0)) ∧ y4.heap[b6]? = some (.cells C 29 (0, 0)) ∧ b0 < w0.heap.size) := by
    have hq : ∀ k, ¬ k < w0.heap.size → w.heap.size ≤ k := fun k hk => Nat.le_trans F0.size (Nat.le_of_not_lt hk)
    exact ⟨(((F0.trans hf1).ofNew hf2 fun k hk => .inr (hq k hk)).trans K3).trans K4, hq, by rw [← hb6]; exact hf3.size, Nat.le_trans hf1.size hf2.size, K3.trans K4, hS2, (K3.trans K4).keep k02, k6, some_lt k0⟩
  rw [hva, hb6]
  clear hC hst3 hyb3 hyf3 K3 lC3 hf4 hst4 hyb4 hyf4 K4 hva hP2 hS1 hf1 ha F0 k0 hS2 hf2 k02 lA2 hf3 hb6 hy hCs HI1 HNEW HSA hw0
  cases c
  · go_upto_region 9 with (first | (go_at_call 30; ((with_reducible refine (at_prog HP.out (HVL.out _)).mono ?_); rintro e w5 ⟨rfl, hf5⟩)) | fail)
    obtain ⟨b11, hb11⟩ : ∃ b11, w5.heap.size = b11 := ⟨_, rfl⟩
    obtain ⟨y5, hst5, hyb5, hyf5⟩ := store_all (P := PD) V6.toList (heap_alloc_new w5 (.cells Z 31)) (by rw [Array.length_toList, h6k, hZk]) (by rw [← HW.out.2.2.2.1]; exact pfx_one _ _ _)
    have K5 : Fr No y4 y5 := (hf5.trans (Fr.alloc No w5 (.cells Z 31))).ofNew hyf5 (fun k hk => .inr (by rw [hk]; exact hf5.size))
    rw [hb11] at hst5 hyb5 hyf5
    obtain ⟨X1, hX1⟩ : ∃ X1 : Nat → Prop, (fun k => k < w0.heap.size ∨ k = b6 ∨ k = b11) = X1 := ⟨_, rfl⟩
    have H5 : Hid (StB y5 a (L0 tTr) X1 ∧ (∀ k, X1 k → k < y5.heap.size) ∧ X1 b0 ∧ X1 b6 ∧ X1 b11 ∧ y5.heap[b0]? = some (.cells A 29 (0, 0)) ∧ y5.heap[b6]? = some (.cells C 29 (0, 0)) ∧ y5.heap[b11]? = some (.cells V6 31 (0, 0)) ∧ (∀ k, ¬ X1 k → w.heap.size ≤ k) ∧ Fr No w y5) := by
      obtain ⟨g1, g2, g3, g4, g5, g6, g7, g8, g9⟩ := H4.out
      have k6' := K5.keep g8
      have k11 : y5.heap[b11]? = some (.cells V6 31 (0, 0)) := by simpa using hyb5
      refine ⟨(g6.add (Y := X1) fun k hk => ?_).no (g5.trans K5), fun k hk => ?_, ?_, ?_, ?_, K5.keep g7, k6', k11, fun k hk => ?_, g1.trans K5⟩
      · rw [← hX1] at hk
        rcases hk with hk | hk | hk
        · exact .inl hk
        · exact .inr (by rw [hk]; exact g3)
        · exact .inr (by rw [hk, ← hb11]; exact Nat.le_trans g5.size hf5.size)
      · rw [← hX1] at hk
        rcases hk with hk | hk | hk
        · exact Nat.lt_of_lt_of_le hk (Nat.le_trans g4 (Nat.le_trans g5.size K5.size))
        · rw [hk]; exact some_lt k6'
        · rw [hk]; exact some_lt k11
      · rw [← hX1]; exact .inl g9
      · rw [← hX1]; exact .inr (.inl rfl)
      · rw [← hX1]; exact .inr (.inr rfl)
      · rw [← hX1] at hk
        exact g2 k fun hc => hk (.inl hc)
    have e6 : Array.foldl (fun (cs : Array Value) (x : Value × Nat) => cs.setIfInBounds x.snd x.fst) Z (Y.setIfInBounds 0 (Value.bool true)).zipIdx 0 k30 = V6 := by
      rw [HK29.out, ← HW.out.2.1, ← HW.out.2.2.1, ← HW.out.2.2.2.1]; kernel_rfl
    have n1 : ¬ Y = #[] := fun h => by { rw [h, HK29.out] at hYk; cases hYk }
    have n2 : ¬ k40 < k30 := by rw [HK29.out, HK31.out]; decide
    have l11 : Sem.run PD (loadCellsFrom ⟨b11, 0, none⟩ 0 k40 #[]) y5 = .ok V6 y5 := load_block H5.out.2.2.2.2.2.2.2.1 h6k (fun j v hv => by simpa using hv)
    go_upto_region 15 with (first | (go_at_call 28; ((with_reducible refine (at_prog HP.out (HI2.out _ a X1 H5.out.1 H5.out.2.1)).mono ?_); rintro e w6 ⟨rfl, hS6, hf6⟩; have q0 := (hf6.block b0 (some_lt H5.out.2.2.2.2.2.1) (fun hc => absurd H5.out.2.2.1 hc)).trans H5.out.2.2.2.2.2.1; have q6 := (hf6.block b6 (some_lt H5.out.2.2.2.2.2.2.1) (fun hc => absurd H5.out.2.2.2.1 hc)).trans H5.out.2.2.2.2.2.2.1; have q11 := (hf6.block b11 (some_lt H5.out.2.2.2.2.2.2.2.1) (fun hc => absurd H5.out.2.2.2.2.1 hc)).trans H5.out.2.2.2.2.2.2.2.1; have l66 : Sem.run PD (loadCellsFrom ⟨b6, 0, none⟩ 0 k30 #[]) w6 = .ok C w6 := load_block q6 hCk (fun j v hv => by simpa using hv))) | (go_at_call 29; ((with_reducible refine (at_prog HP.out (HL2.out _ X1 hS6)).mono ?_); rintro e w7 ⟨rfl, hf7⟩; have hP2k : P2.size = k40 := (by rw [HK31.out]; exact hP2s); obtain ⟨y7, hst7, hyb7, hyf7⟩ := store_all (P := PD) P2.toList (heap_alloc_new w7 (.cells Z 31)) (by rw [Array.length_toList, hP2k, hZk]) hP21; have K7 : Fr No w6 y7 := (hf7.trans (Fr.alloc No w7 (.cells Z 31))).ofNew hyf7 (fun k hk => .inr (by rw [hk]; exact hf7.size)); have l07 : Sem.run PD (loadCellsFrom ⟨b0, 0, none⟩ 0 k30 #[]) y7 = .ok A y7 := load_block (K7.keep q0) hAk (fun j v hv => by simpa using hv))) | (go_at_call 21; ((with_reducible refine (at_prog HP.out (HVA.out _)).mono ?_); rintro e w8 ⟨rfl, hf8⟩)) | (go_at_call 9; ((with_reducible refine (at_prog HP.out (HMO.out _)).mono ?_); rintro e wn ⟨rfl, hwn⟩; subst hwn)) | (go_at_call 23; ((with_reducible refine (at_prog HP.out (HPO.out _)).mono ?_); rintro e w9 ⟨rfl, hf9⟩; obtain ⟨y9, hst9, hyb9, hyf9⟩ := store_all (P := PD) QP.toList (heap_alloc_new w9 (.cells Z 31)) (by rw [Array.length_toList, hQk, hZk]) HW.out.2.2.2.2.2; have K9 : Fr No y7 y9 := ((hf8.trans hf9).trans (Fr.alloc No w9 (.cells Z 31))).ofNew hyf9 (fun k hk => .inr (by rw [hk]; exact (hf8.trans hf9).size)); have l99 : Sem.run PD (loadCellsFrom ⟨w9.heap.size, 0, none⟩ 0 k40 #[]) y9 = .ok QP y9 := load_block hyb9 hQk (fun j v hv => by simpa using hv))) | (go_at_call 31; ((with_reducible refine (at_prog HP.out (HGE.out _ a X1 (hS6.no (K7.trans K9)))).mono ?_); rintro e w10 ⟨rfl, hf10⟩)) | fail)
    obtain ⟨b12, hb12⟩ : ∃ b12, w7.heap.size = b12 := ⟨_, rfl⟩
    obtain ⟨b15, hb15⟩ : ∃ b15, w9.heap.size = b15 := ⟨_, rfl⟩
    rw [hb12] at hyb7 hyf7
    rw [hb15] at hyb9 hyf9
    rw [hb12, hb15]
    obtain ⟨X2, hX2⟩ : ∃ X2 : Nat → Prop, (fun k => X1 k ∨ k = b12 ∨ k = b15) = X2 := ⟨_, rfl⟩
    have K10 : Fr No w6 w10 := (K7.trans K9).trans hf10
    have k12 : w10.heap[b12]? = some (.cells P2 31 (0, 0)) := by simpa using (K9.trans hf10).keep hyb7
    have k15 : w10.heap[b15]? = some (.cells QP 31 (0, 0)) := by simpa using hf10.keep hyb9
    have k6 := K10.keep q6
    have k11 := K10.keep q11
    have hlt : ∀ k, X2 k → k < w10.heap.size := fun k hk => by
      rw [← hX2] at hk
      rcases hk with hk | hk | hk
      · exact Nat.lt_of_lt_of_le (H5.out.2.1 k hk) (Nat.le_trans hf6.size K10.size)
      · rw [hk]; exact some_lt k12
      · rw [hk]; exact some_lt k15
    have hx6 : X2 b6 := by rw [← hX2]; exact .inl H5.out.2.2.2.1
    have hx11 : X2 b11 := by rw [← hX2]; exact .inl H5.out.2.2.2.2.1
    have hx12 : X2 b12 := by rw [← hX2]; exact .inr (.inl rfl)
    have hx15 : X2 b15 := by rw [← hX2]; exact .inr (.inr rfl)
    have HST : Hid (∀ w', Fr No w10 w' → StB w' a (L2 tTr) X2) := fun w' hf => ((hS6.add (Y := X2) fun k hk => by
      rw [← hX2] at hk
      rcases hk with hk | hk | hk
      · exact .inl hk
      · exact .inr (by rw [hk, ← hb12]; exact hf7.size)
      · exact .inr (by rw [hk, ← hb15]; exact Nat.le_trans K7.size (hf8.trans hf9).size)).no K10).no hf
    have HLT : Hid (∀ w', Fr (fun k => ¬ X2 k) w10 w' → ∀ k, X2 k → k < w'.heap.size) := fun w' hf k hk => Nat.lt_of_lt_of_le (hlt k hk) hf.size
    have HEND : Hid (∀ w', Fr (fun k => ¬ X2 k) w10 w' → Fr No w w') := fun w' hf => by
      have g1 : Fr No w w6 := H5.out.2.2.2.2.2.2.2.2.2.ofNew hf6 fun k hk => .inr (H5.out.2.2.2.2.2.2.2.2.1 k hk)
      refine (g1.trans K10).ofNew hf fun k hk => .inr (H5.out.2.2.2.2.2.2.2.2.1 k fun hc => hk ?_)
      rw [← hX2]
      exact .inl hc
    have HLN : Hid (∀ w', StB w' a (L0 tTr) X2 → Calls Try.prog 33 #[.pointer (some ⟨a, 0, none⟩)] w' fun e w'' => e = .returned (.int .i64 1) ∧ w'' = w') := fun w' h => lenSB h
    cases va
    all_goals (
      have HS : Hid (∀ w', Fr (fun k => ¬ X2 k) w10 w' → Fr (fun k => ¬ X2 k) w10 w' ∧ w'.cell? ⟨b6, 0, none⟩ = some (.bool false) ∧ Sem.run PD (loadCellsFrom ⟨b6, 0, none⟩ 0 k30 #[]) w' = .ok C w' ∧ w'.cell? ⟨b12, 0, none⟩ = P2[0]? ∧ w'.cell? ⟨b12, 17, none⟩ = some (.int .i64 0) ∧ w'.cell? ⟨b15, 17, none⟩ = some (.int .i64 (m : Int)) ∧ Sem.run PD (loadCellsFrom ⟨b11, 0, none⟩ 0 k40 #[]) w' = .ok V6 w') := fun w' hf => by
        have j6 := (hf.block b6 (hlt _ hx6) (fun hc => absurd hx6 hc)).trans k6
        have j11 := (hf.block b11 (hlt _ hx11) (fun hc => absurd hx11 hc)).trans k11
        have j12 := (hf.block b12 (hlt _ hx12) (fun hc => absurd hx12 hc)).trans k12
        have j15 := (hf.block b15 (hlt _ hx15) (fun hc => absurd hx15 hc)).trans k15
        exact ⟨hf, by rw [cell_of_row _ _ _ _ _ _ j6]; exact hC0, load_block j6 hCk (fun j v hv => by simpa using hv), by rw [cell_of_row _ _ _ _ _ _ j12], by rw [cell_of_row _ _ _ _ _ _ j12]; exact hP217, by rw [cell_of_row _ _ _ _ _ _ j15]; exact hQ17, load_block j11 h6k (fun j v hv => by simpa using hv)⟩
      rw [hP20] at HS
      have hm1 : decide (m = 0) = ((m : Int) == 0) := by by_cases h : m = 0 <;> simp [h]
      have f0 := HS.out _ (Fr.refl (fun k => ¬ X2 k) w10)
      clear hst7 hyb7 hyf7 hst9 hyb9 hyf9 K7 K9 hf7 hf8 hf9 l07 l99 hf10 K10 q0 q6 q11 l66 hS6 hf6 hb12 hb15 hX2 k6 k11 k12 k15 hst5 hyb5 hyf5 K5 hb11 hX1 e6 n1 n2 l11 HI2 HGE HPO HMO HVA HL2 hQ17 hP20 hP217 hC0
      go_wp2_with (first | (go_at_call 20; ((with_reducible refine (at_prog HP.out (awake_any _)).mono ?_); rintro e u1 ⟨rfl, hu1⟩; have J1 : Fr (fun k => ¬ X2 k) w10 u1 := (hu1.mono fun _ _ h => h.elim); obtain ⟨-, a1, a2, a3, a4, a5, a6⟩ := HS.out _ J1)) | (go_at_call 30; ((with_reducible refine (at_prog HP.out (HVL.out _)).mono ?_); rintro e u2 ⟨rfl, hu2⟩; have J2 : Fr (fun k => ¬ X2 k) w10 u2 := J1.trans (hu2.mono fun _ _ h => h.elim); obtain ⟨-, d1, d2, d3, d4, d5, d6⟩ := HS.out _ J2)) | (go_at_call 32; ((with_reducible refine (at_prog HP.out (HD1.out _ a X2 (HST.out _ (hu1.trans hu2)) (HLT.out _ J2))).mono ?_); rintro e u3 ⟨rfl, hS3, hu3⟩; have J3 : Fr (fun k => ¬ X2 k) w10 u3 := J2.trans hu3; obtain ⟨-, e1, e2, e3, e4, e5, e6⟩ := HS.out _ J3)) | (go_at_call 32; ((with_reducible refine (at_prog HP.out (HD2.out _ a X2 hS3 (HLT.out _ J3))).mono ?_); rintro e u4 ⟨rfl, hS4, hu4⟩; have J4 : Fr (fun k => ¬ X2 k) w10 u4 := J3.trans hu4)) | (go_at_call 33; ((with_reducible refine (at_prog HP.out (HLN.out _ hS4)).mono ?_); rintro e wl ⟨rfl, hwl⟩; replace hwl := hwl.symm; subst hwl)) | fail)
      go_ret
      exact ⟨rfl, HEND.out _ J4⟩)
  · go_upto_region 9 with fail
    have hf5 : Fr No y4 y4 := Fr.refl _ _
    obtain ⟨b11, hb11⟩ : ∃ b11, y4.heap.size = b11 := ⟨_, rfl⟩
    obtain ⟨y5, hst5, hyb5, hyf5⟩ := store_all (P := PD) V6.toList (heap_alloc_new y4 (.cells Z 31)) (by rw [Array.length_toList, h6k, hZk]) (by rw [← HW.out.2.2.2.1]; exact pfx_one _ _ _)
    have K5 : Fr No y4 y5 := (hf5.trans (Fr.alloc No y4 (.cells Z 31))).ofNew hyf5 (fun k hk => .inr (by rw [hk]; exact hf5.size))
    rw [hb11] at hst5 hyb5 hyf5
    obtain ⟨X1, hX1⟩ : ∃ X1 : Nat → Prop, (fun k => k < w0.heap.size ∨ k = b6 ∨ k = b11) = X1 := ⟨_, rfl⟩
    have H5 : Hid (StB y5 a (L0 tTr) X1 ∧ (∀ k, X1 k → k < y5.heap.size) ∧ X1 b0 ∧ X1 b6 ∧ X1 b11 ∧ y5.heap[b0]? = some (.cells A 29 (0, 0)) ∧ y5.heap[b6]? = some (.cells C 29 (0, 0)) ∧ y5.heap[b11]? = some (.cells V6 31 (0, 0)) ∧ (∀ k, ¬ X1 k → w.heap.size ≤ k) ∧ Fr No w y5) := by
      obtain ⟨g1, g2, g3, g4, g5, g6, g7, g8, g9⟩ := H4.out
      have k6' := K5.keep g8
      have k11 : y5.heap[b11]? = some (.cells V6 31 (0, 0)) := by simpa using hyb5
      refine ⟨(g6.add (Y := X1) fun k hk => ?_).no (g5.trans K5), fun k hk => ?_, ?_, ?_, ?_, K5.keep g7, k6', k11, fun k hk => ?_, g1.trans K5⟩
      · rw [← hX1] at hk
        rcases hk with hk | hk | hk
        · exact .inl hk
        · exact .inr (by rw [hk]; exact g3)
        · exact .inr (by rw [hk, ← hb11]; exact Nat.le_trans g5.size hf5.size)
      · rw [← hX1] at hk
        rcases hk with hk | hk | hk
        · exact Nat.lt_of_lt_of_le hk (Nat.le_trans g4 (Nat.le_trans g5.size K5.size))
        · rw [hk]; exact some_lt k6'
        · rw [hk]; exact some_lt k11
      · rw [← hX1]; exact .inl g9
      · rw [← hX1]; exact .inr (.inl rfl)
      · rw [← hX1]; exact .inr (.inr rfl)
      · rw [← hX1] at hk
        exact g2 k fun hc => hk (.inl hc)
    have e6 : Array.foldl (fun (cs : Array Value) (x : Value × Nat) => cs.setIfInBounds x.snd x.fst) Z (Y.setIfInBounds 0 (Value.bool true)).zipIdx 0 k30 = V6 := by
      rw [HK29.out, ← HW.out.2.1, ← HW.out.2.2.1, ← HW.out.2.2.2.1]; kernel_rfl
    have n1 : ¬ Y = #[] := fun h => by { rw [h, HK29.out] at hYk; cases hYk }
    have n2 : ¬ k40 < k30 := by rw [HK29.out, HK31.out]; decide
    have l11 : Sem.run PD (loadCellsFrom ⟨b11, 0, none⟩ 0 k40 #[]) y5 = .ok V6 y5 := load_block H5.out.2.2.2.2.2.2.2.1 h6k (fun j v hv => by simpa using hv)
    go_upto_region 15 with (first | (go_at_call 28; ((with_reducible refine (at_prog HP.out (HI2.out _ a X1 H5.out.1 H5.out.2.1)).mono ?_); rintro e w6 ⟨rfl, hS6, hf6⟩; have q0 := (hf6.block b0 (some_lt H5.out.2.2.2.2.2.1) (fun hc => absurd H5.out.2.2.1 hc)).trans H5.out.2.2.2.2.2.1; have q6 := (hf6.block b6 (some_lt H5.out.2.2.2.2.2.2.1) (fun hc => absurd H5.out.2.2.2.1 hc)).trans H5.out.2.2.2.2.2.2.1; have q11 := (hf6.block b11 (some_lt H5.out.2.2.2.2.2.2.2.1) (fun hc => absurd H5.out.2.2.2.2.1 hc)).trans H5.out.2.2.2.2.2.2.2.1; have l66 : Sem.run PD (loadCellsFrom ⟨b6, 0, none⟩ 0 k30 #[]) w6 = .ok C w6 := load_block q6 hCk (fun j v hv => by simpa using hv))) | (go_at_call 29; ((with_reducible refine (at_prog HP.out (HL2.out _ X1 hS6)).mono ?_); rintro e w7 ⟨rfl, hf7⟩; have hP2k : P2.size = k40 := (by rw [HK31.out]; exact hP2s); obtain ⟨y7, hst7, hyb7, hyf7⟩ := store_all (P := PD) P2.toList (heap_alloc_new w7 (.cells Z 31)) (by rw [Array.length_toList, hP2k, hZk]) hP21; have K7 : Fr No w6 y7 := (hf7.trans (Fr.alloc No w7 (.cells Z 31))).ofNew hyf7 (fun k hk => .inr (by rw [hk]; exact hf7.size)); have l07 : Sem.run PD (loadCellsFrom ⟨b0, 0, none⟩ 0 k30 #[]) y7 = .ok A y7 := load_block (K7.keep q0) hAk (fun j v hv => by simpa using hv))) | (go_at_call 21; ((with_reducible refine (at_prog HP.out (HVA.out _)).mono ?_); rintro e w8 ⟨rfl, hf8⟩)) | (go_at_call 9; ((with_reducible refine (at_prog HP.out (HMO.out _)).mono ?_); rintro e wn ⟨rfl, hwn⟩; subst hwn)) | (go_at_call 23; ((with_reducible refine (at_prog HP.out (HPO.out _)).mono ?_); rintro e w9 ⟨rfl, hf9⟩; obtain ⟨y9, hst9, hyb9, hyf9⟩ := store_all (P := PD) QP.toList (heap_alloc_new w9 (.cells Z 31)) (by rw [Array.length_toList, hQk, hZk]) HW.out.2.2.2.2.2; have K9 : Fr No y7 y9 := ((hf8.trans hf9).trans (Fr.alloc No w9 (.cells Z 31))).ofNew hyf9 (fun k hk => .inr (by rw [hk]; exact (hf8.trans hf9).size)); have l99 : Sem.run PD (loadCellsFrom ⟨w9.heap.size, 0, none⟩ 0 k40 #[]) y9 = .ok QP y9 := load_block hyb9 hQk (fun j v hv => by simpa using hv))) | (go_at_call 31; ((with_reducible refine (at_prog HP.out (HGE.out _ a X1 (hS6.no (K7.trans K9)))).mono ?_); rintro e w10 ⟨rfl, hf10⟩)) | fail)
    obtain ⟨b12, hb12⟩ : ∃ b12, w7.heap.size = b12 := ⟨_, rfl⟩
    obtain ⟨b15, hb15⟩ : ∃ b15, w9.heap.size = b15 := ⟨_, rfl⟩
    rw [hb12] at hyb7 hyf7
    rw [hb15] at hyb9 hyf9
    rw [hb12, hb15]
    obtain ⟨X2, hX2⟩ : ∃ X2 : Nat → Prop, (fun k => X1 k ∨ k = b12 ∨ k = b15) = X2 := ⟨_, rfl⟩
    have K10 : Fr No w6 w10 := (K7.trans K9).trans hf10
    have k12 : w10.heap[b12]? = some (.cells P2 31 (0, 0)) := by simpa using (K9.trans hf10).keep hyb7
    have k15 : w10.heap[b15]? = some (.cells QP 31 (0, 0)) := by simpa using hf10.keep hyb9
    have k6 := K10.keep q6
    have k11 := K10.keep q11
    have hlt : ∀ k, X2 k → k < w10.heap.size := fun k hk => by
      rw [← hX2] at hk
      rcases hk with hk | hk | hk
      · exact Nat.lt_of_lt_of_le (H5.out.2.1 k hk) (Nat.le_trans hf6.size K10.size)
      · rw [hk]; exact some_lt k12
      · rw [hk]; exact some_lt k15
    have hx6 : X2 b6 := by rw [← hX2]; exact .inl H5.out.2.2.2.1
    have hx11 : X2 b11 := by rw [← hX2]; exact .inl H5.out.2.2.2.2.1
    have hx12 : X2 b12 := by rw [← hX2]; exact .inr (.inl rfl)
    have hx15 : X2 b15 := by rw [← hX2]; exact .inr (.inr rfl)
    have HST : Hid (∀ w', Fr No w10 w' → StB w' a (L2 tTr) X2) := fun w' hf => ((hS6.add (Y := X2) fun k hk => by
      rw [← hX2] at hk
      rcases hk with hk | hk | hk
      · exact .inl hk
      · exact .inr (by rw [hk, ← hb12]; exact hf7.size)
      · exact .inr (by rw [hk, ← hb15]; exact Nat.le_trans K7.size (hf8.trans hf9).size)).no K10).no hf
    have HLT : Hid (∀ w', Fr (fun k => ¬ X2 k) w10 w' → ∀ k, X2 k → k < w'.heap.size) := fun w' hf k hk => Nat.lt_of_lt_of_le (hlt k hk) hf.size
    have HEND : Hid (∀ w', Fr (fun k => ¬ X2 k) w10 w' → Fr No w w') := fun w' hf => by
      have g1 : Fr No w w6 := H5.out.2.2.2.2.2.2.2.2.2.ofNew hf6 fun k hk => .inr (H5.out.2.2.2.2.2.2.2.2.1 k hk)
      refine (g1.trans K10).ofNew hf fun k hk => .inr (H5.out.2.2.2.2.2.2.2.2.1 k fun hc => hk ?_)
      rw [← hX2]
      exact .inl hc
    have HLN : Hid (∀ w', StB w' a (L0 tTr) X2 → Calls Try.prog 33 #[.pointer (some ⟨a, 0, none⟩)] w' fun e w'' => e = .returned (.int .i64 1) ∧ w'' = w') := fun w' h => lenSB h
    cases va
    all_goals (
      have HS : Hid (∀ w', Fr (fun k => ¬ X2 k) w10 w' → Fr (fun k => ¬ X2 k) w10 w' ∧ w'.cell? ⟨b6, 0, none⟩ = some (.bool true) ∧ Sem.run PD (loadCellsFrom ⟨b6, 0, none⟩ 0 k30 #[]) w' = .ok C w' ∧ w'.cell? ⟨b12, 0, none⟩ = P2[0]? ∧ w'.cell? ⟨b12, 17, none⟩ = some (.int .i64 0) ∧ w'.cell? ⟨b15, 17, none⟩ = some (.int .i64 (m : Int)) ∧ Sem.run PD (loadCellsFrom ⟨b11, 0, none⟩ 0 k40 #[]) w' = .ok V6 w') := fun w' hf => by
        have j6 := (hf.block b6 (hlt _ hx6) (fun hc => absurd hx6 hc)).trans k6
        have j11 := (hf.block b11 (hlt _ hx11) (fun hc => absurd hx11 hc)).trans k11
        have j12 := (hf.block b12 (hlt _ hx12) (fun hc => absurd hx12 hc)).trans k12
        have j15 := (hf.block b15 (hlt _ hx15) (fun hc => absurd hx15 hc)).trans k15
        exact ⟨hf, by rw [cell_of_row _ _ _ _ _ _ j6]; exact hC0, load_block j6 hCk (fun j v hv => by simpa using hv), by rw [cell_of_row _ _ _ _ _ _ j12], by rw [cell_of_row _ _ _ _ _ _ j12]; exact hP217, by rw [cell_of_row _ _ _ _ _ _ j15]; exact hQ17, load_block j11 h6k (fun j v hv => by simpa using hv)⟩
      rw [hP20] at HS
      have hm1 : decide (m = 0) = ((m : Int) == 0) := by by_cases h : m = 0 <;> simp [h]
      have f0 := HS.out _ (Fr.refl (fun k => ¬ X2 k) w10)
      clear hst7 hyb7 hyf7 hst9 hyb9 hyf9 K7 K9 hf7 hf8 hf9 l07 l99 hf10 K10 q0 q6 q11 l66 hS6 hf6 hb12 hb15 hX2 k6 k11 k12 k15 hst5 hyb5 hyf5 K5 hb11 hX1 e6 n1 n2 l11 HI2 HGE HPO HMO HVA HL2 hQ17 hP20 hP217 hC0
      go_wp2_with (first | (go_at_call 20; ((with_reducible refine (at_prog HP.out (awake_any _)).mono ?_); rintro e u1 ⟨rfl, hu1⟩; have J1 : Fr (fun k => ¬ X2 k) w10 u1 := (hu1.mono fun _ _ h => h.elim); obtain ⟨-, a1, a2, a3, a4, a5, a6⟩ := HS.out _ J1)) | (go_at_call 30; ((with_reducible refine (at_prog HP.out (HVL.out _)).mono ?_); rintro e u2 ⟨rfl, hu2⟩; have J2 : Fr (fun k => ¬ X2 k) w10 u2 := J1.trans (hu2.mono fun _ _ h => h.elim); obtain ⟨-, d1, d2, d3, d4, d5, d6⟩ := HS.out _ J2)) | (go_at_call 32; ((with_reducible refine (at_prog HP.out (HD1.out _ a X2 (HST.out _ (hu1.trans hu2)) (HLT.out _ J2))).mono ?_); rintro e u3 ⟨rfl, hS3, hu3⟩; have J3 : Fr (fun k => ¬ X2 k) w10 u3 := J2.trans hu3; obtain ⟨-, e1, e2, e3, e4, e5, e6⟩ := HS.out _ J3)) | (go_at_call 32; ((with_reducible refine (at_prog HP.out (HD2.out _ a X2 hS3 (HLT.out _ J3))).mono ?_); rintro e u4 ⟨rfl, hS4, hu4⟩; have J4 : Fr (fun k => ¬ X2 k) w10 u4 := J3.trans hu4)) | (go_at_call 33; ((with_reducible refine (at_prog HP.out (HLN.out _ hS4)).mono ?_); rintro e wl ⟨rfl, hwl⟩; replace hwl := hwl.symm; subst hwl)) | fail)
      go_ret
      exact ⟨rfl, HEND.out _ J4⟩)
end Go.Proofs.Ytnbohhiooigmbaa
