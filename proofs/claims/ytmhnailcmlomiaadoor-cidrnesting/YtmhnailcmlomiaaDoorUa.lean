/-
  THE WALK OF CidrPrefixIsUnique, over this seat's translation: the call returns true.
  Conditions: the arguments are an address and a prefix; the package variables are as Gl says.
-/
import Derived.Test.YtmhnailcmlomiaaDoorEa
import Derived.Test.YtmhnailcmlomiaaDoorGc
import Derived.Test.YtmhnailcmlomiaaDoorCf
import Derived.Deep.DeepCutAuto
import Derived.Deep.CutBlock
namespace Go.Proofs.YtmhnailcmlomiaaDoor
open Go.ChangeShapes Go.WideShapes Go.ChangeAt Go.RowKit
set_option linter.unusedVariables false

theorem pfx_size {b : Bool} {xs : List Nat} {n : Int} (hx : Bytes xs) : (pfx b xs n).toArray.size = 18 := by rw [List.size_toArray]; exact pfx_length hx.1
theorem pfx_ones (b : Bool) (xs : List Nat) (n : Int) : ∀ u ∈ (pfx b xs n).toArray.toList, u.oneCell' = true := by intro u hu; exact pfx_one _ _ _ u (by simpa using hu)
theorem adr_size {b : Bool} {xs : List Nat} (hx : Bytes xs) : (adr b xs).toArray.size = 17 := by rw [List.size_toArray, adr_length, hx.1]
theorem adr_ones (b : Bool) (xs : List Nat) : ∀ u ∈ (adr b xs).toArray.toList, u.oneCell' = true := by intro u hu; exact adr_one _ _ u (by simpa using hu)
theorem pofT_eq (b : Bool) {xs : List Nat} (n : Int) (hx : Bytes xs) : ∀ w, Sem.run Tryd.prog (Op.equalIn 10000 26 (.agg (pofT b xs n).toArray) (.agg (pofT b xs n).toArray)) w = .ok true w := by
  intro w
  unfold pofT
  split
  · rw [pfx_eq n n (pofX_bytes hx n) (pofX_bytes hx n) w, decide_eq_true ⟨⟨rfl, rfl⟩, rfl⟩]
  · rw [noP, pfx_eq 0 0 zeros_bytes zeros_bytes w, decide_eq_true ⟨⟨rfl, rfl⟩, rfl⟩]
theorem cont_pof {c d : Bool} {ys zs : List Nat} {k : Int} (hz : Bytes zs) (hy : Bytes ys) (h : pofB c ys k = true) : contP d zs k c ys = decide ((d = c ∧ zs = pofX c ys k) ∧ k = k) := by
  rw [cont_eq hz hy, h, Bool.true_and]
  exact decide_eq_decide.2 ⟨fun ⟨h1, h2⟩ => ⟨⟨h1, h2⟩, rfl⟩, fun ⟨⟨h1, h2⟩, _⟩ => ⟨h1, h2⟩⟩

set_option maxHeartbeats 32000000 in
set_option maxRecDepth 100000 in
theorem unique_law (b : Bool) (xs : List Nat) (v : Int) (d0 : Bool) (ps : List Nat) (n : Int) (hx : Bytes xs) (hp : Bytes ps) (w : World) (hG : Gl w) :
    Calls Tryd.prog 3 #[.agg (adr b xs).toArray, .int .i64 v, .agg (pfx d0 ps n).toArray] w fun e w' => e = .returned (.bool true) ∧ Fr No w w' := by
  obtain ⟨Z, hZ⟩ : ∃ Z : Array Value, noP.toArray = Z := ⟨_, rfl⟩
  obtain ⟨Y, hY⟩ : ∃ Y : Array Value, (adr false zeros).toArray = Y := ⟨_, rfl⟩
  have v40 := zero26
  have v30 := zero24
  rw [hZ] at v40
  rw [hY] at v30
  have hZs : Z.size = 18 := by rw [← hZ]; rfl
  have hYs : Y.size = 17 := by rw [← hY]; rfl
  have P1 : Hid (∀ w', Calls Tryd.prog 5 #[.agg (adr b xs).toArray, .int .i64 v] w' fun e w'' => e = .returned (.tuple #[.agg (pofT b xs v).toArray, .bool (pofB b xs v)]) ∧ Fr No w' w'') := fun w' => pof_any b xs v hx w'
  have P2 : Hid (∀ w', Calls Tryd.prog 6 #[.agg (adr b xs).toArray, .int .i64 v] w' fun e w'' => e = .returned (.tuple #[.agg (pofT b xs v).toArray, .bool (pofB b xs v)]) ∧ Fr No w' w'') := fun w' => pof_ref b xs v hx w'
  have V1 : Hid (∀ w', Calls Tryd.prog 7 #[.agg (adr b xs).toArray] w' (GenA w')) := fun w' => vaddr_gen b xs hx w'
  have G1 : Hid (∀ w', Calls Tryd.prog 10 #[.agg (pfx d0 ps n).toArray] w' (GenP w')) := fun w' => prefix_gen d0 ps n hp w'
  obtain ⟨hTs, hT1⟩ := pofT_len b v hx
  have hTe := pofT_eq b v hx
  have hAs := adr_size (b := b) hx
  have hPs := pfx_size (b := d0) (n := n) hp
  generalize (pofT b xs v).toArray = T at P1 P2 hTs hT1 hTe
  generalize pofB b xs v = tb at P1 P2
  generalize (adr b xs).toArray = A at P1 P2 V1 hAs ⊢
  generalize (pfx d0 ps n).toArray = P at G1 hPs ⊢
  obtain ⟨b1, b2, hF⟩ := alloc2 w (.cells A 24) (.cells P 26)
  obtain ⟨w1, hw1⟩ : ∃ w1, (w.alloc (.cells A 24)).alloc (.cells P 26) = w1 := ⟨_, rfl⟩
  obtain ⟨nb, hnb⟩ : ∃ nb, w.heap.size = nb := ⟨_, rfl⟩
  rw [hw1, hnb] at b1 b2
  rw [hw1] at hF
  have HB := Lib.hid (And.intro b1 (And.intro b2 (And.intro hF (And.intro hG hT1))))
  have q40 := Tryd.eqGuardType26
  have e1 : (tb != tb) = false := by simp
  clear b1 b2 hF hG hT1 hZ hY hx hp
  go_enter Tryd.func3, Tryd.ntmps3
  have t3 := Tryd.underlying3
  have u3 := Tryd.runUnderlying3
  have g3 := Tryd.isAgg3
  have z3 := Tryd.sizeOf3
  have t4 := Tryd.underlying4
  have u4 := Tryd.runUnderlying4
  have g4 := Tryd.isAgg4
  have z4 := Tryd.sizeOf4
  have t22 := Tryd.underlying22
  have u22 := Tryd.runUnderlying22
  have g22 := Tryd.isAgg22
  have z22 := Tryd.sizeOf22
  have t24 := Tryd.underlying24
  have u24 := Tryd.runUnderlying24
  have g24 := Tryd.isAgg24
  have z24 := Tryd.sizeOf24
  have t26 := Tryd.underlying26
  have u26 := Tryd.runUnderlying26
  have g26 := Tryd.isAgg26
  have z26 := Tryd.sizeOf26
  have c5 := Tryd.call5
  have c6 := Tryd.call6
  have c7 := Tryd.call7
  have c8 := Tryd.call8
  have c9 := Tryd.call9
  have c10 := Tryd.call10
  have c11 := Tryd.call11
  have c12 := Tryd.call12
  have mixed : Tryd.prog.follows .mixedOrders = true := by kernel_rfl
  obtain ⟨k30, hk30⟩ : ∃ k, k = 17 := ⟨_, rfl⟩
  rw [← hk30] at z24
  have nk30 : ¬ k30 = 0 := by omega
  have HK24 := Lib.hid hk30
  obtain ⟨k40, hk40⟩ : ∃ k, k = 18 := ⟨_, rfl⟩
  rw [← hk40] at z26
  have nk40 : ¬ k40 = 0 := by omega
  have HK26 := Lib.hid hk40
  have hP : Tryd.prog = PD := rfl
  rw [hP] at t3 u3 g3 z3 t4 u4 g4 z4 t22 u22 g22 z22 t24 u24 g24 z24 t26 u26 g26 z26 c5 c6 c7 c8 c9 c10 c11 c12 mixed v40 v30 hTe q40 ⊢
  have HP := Lib.hid hP.symm
  clear hP hk30 hk40
  have hPk : P.size = k40 := by rw [HK26.out]; exact hPs
  have hTk : T.size = k40 := by rw [HK26.out]; exact hTs
  have hZk : Z.size = k40 := by rw [HK26.out]; exact hZs
  have hAk : A.size = k30 := by rw [HK24.out]; exact hAs
  have hYk : Y.size = k30 := by rw [HK24.out]; exact hYs
  clear hPs hTs hZs hAs hYs
  have HSA : Hid (∀ w', Fr No w1 w' → Sem.run PD (loadCellsFrom ⟨nb, 0, none⟩ 0 k30 #[]) w' = .ok A w' ∧ Sem.run PD (loadCellsFrom ⟨nb + 1, 0, none⟩ 0 k40 #[]) w' = .ok P w') := fun w' hf => ⟨load_block (hf.keep HB.out.1) hAk (fun j v hv => by simpa using hv), load_block (hf.keep HB.out.2.1) hPk (fun j v hv => by simpa using hv)⟩
  have lp0 := (HSA.out w1 (Fr.refl No _)).1
  go_wp2_with (first | (go_at_call 5; refine (at_prog HP.out (P1.out _)).mono ?_; rintro e u1 ⟨rfl, hu1⟩; obtain ⟨z1, hs1, hzb1, hzf1⟩ := store_all (P := PD) T.toList (heap_alloc_new u1 (.cells Z 26)) (by rw [Array.length_toList, hTk, hZk]) HB.out.2.2.2.2; have K1 : Fr No w1 z1 := (hu1.trans (Fr.alloc No u1 (.cells Z 26))).ofNew hzf1 (fun k hk => .inr (by rw [hk]; exact hu1.size)); have la1 := (HSA.out z1 K1).1) | (go_at_call 6; refine (at_prog HP.out (P2.out _)).mono ?_; rintro e u2 ⟨rfl, hu2⟩; obtain ⟨z2, hs2, hzb2, hzf2⟩ := store_all (P := PD) T.toList (heap_alloc_new u2 (.cells Z 26)) (by rw [Array.length_toList, hTk, hZk]) HB.out.2.2.2.2; have K12 : Fr No z1 z2 := (hu2.trans (Fr.alloc No u2 (.cells Z 26))).ofNew hzf2 (fun k hk => .inr (by rw [hk]; exact hu2.size)); have K2 := K1.trans K12; have la2 := (HSA.out z2 K2).1; have lt1 : Sem.run PD (loadCellsFrom ⟨u1.heap.size, 0, none⟩ 0 k40 #[]) z2 = .ok T z2 := load_block (K12.keep hzb1) (by simpa using hTk) (fun j v hv => by simpa using hv); have lt2 : Sem.run PD (loadCellsFrom ⟨u2.heap.size, 0, none⟩ 0 k40 #[]) z2 = .ok T z2 := load_block hzb2 (by simpa using hTk) (fun j v hv => by simpa using hv)) | (go_at_call 7; refine (at_prog HP.out (V1.out _)).mono ?_; rintro e u3 ⟨c, ys, hyb, hyv, rfl, hu3⟩; obtain ⟨B, hB0, h0B, hBs, -⟩ := adr_letter c ys hyb; rw [hB0]; have hBk : B.size = k30 := hBs.trans HK24.out.symm; have hB1 : ∀ u ∈ B.toList, u.oneCell' = true := (by rw [← hB0]; exact adr_ones _ _); obtain ⟨z3, hs3, hzb3, hzf3⟩ := store_all (P := PD) B.toList (heap_alloc_new u3 (.cells Y 24)) (by rw [Array.length_toList, hBk, hYk]) hB1) | fail)
  obtain ⟨ab, hab⟩ : ∃ ab, u3.heap.size = ab := ⟨_, rfl⟩
  have K23 : Fr No z2 z3 := (hu3.trans (Fr.alloc No u3 (.cells Y 24))).ofNew hzf3 fun k hk => .inr (by rw [hk]; exact hu3.size)
  rw [hab] at hzb3 ⊢
  have HC : Hid (Fr No w1 z3 ∧ z3.heap[ab]? = some (.cells B 24 (0, 0))) := ⟨K2.trans K23, by simpa using hzb3⟩
  clear K1 K2 K12 K23 hzb1 hzb2 hzb3 hzf1 hzf2 hzf3 hu1 hu2 hu3 la1 la2 lt1 lt2 lp0 hs1 hs2 hs3 hab P1 P2 V1 e1 hTe
  obtain ⟨N, hN⟩ : ∃ N : Nat, bitsOf c = N := ⟨(bitsOf c).toNat, by have := bitsOf_le c; omega⟩
  have hN128 : N ≤ 128 := by have := bitsOf_le c; omega
  have HBL : Hid (∀ w', Calls Tryd.prog 9 #[.agg B] w' fun e w'' => e = .returned (.int .i64 N) ∧ Fr No w' w'') := fun w' => by
    have h := bitLen_R c B h0B w'
    rw [hN] at h
    exact h
  obtain ⟨kn, hkn, hmd⟩ := mod_fix v (N + 1) (by omega) (by omega)
  have hpo : pofB c ys kn = true := by
    unfold pofB
    rw [hyv, decide_eq_true (by omega : (0 : Int) ≤ (kn : Int)), decide_eq_true (by omega : (kn : Int) ≤ bitsOf c)]
    rfl
  obtain ⟨k, hk⟩ : ∃ k : Int, (kn : Int) = k := ⟨_, rfl⟩
  rw [hk] at hmd hpo
  have HMD : Hid (∀ w', Calls Tryd.prog 8 #[.int .i64 v, .int .i64 ((N : Int) + 1)] w' fun e w'' => e = .returned (.int .i64 k) ∧ w'' = w') := hmd
  have hwB : IntKind.i64.wrap ((N : Int) + 1) = (N : Int) + 1 := by rw [IntKind.wrap_i64]; omega
  obtain ⟨Q, hQ0, -, hQ17, hQs, -, hQ1⟩ := pfx_letter c (pofX c ys k) k (pofX_bytes hyb k)
  have hQk : Q.size = k40 := hQs.trans HK26.out.symm
  have HPO : Hid (∀ w', Calls Tryd.prog 5 #[.agg B, .int .i64 k] w' fun e w'' => e = .returned (.tuple #[.agg Q, .bool true]) ∧ Fr No w' w'') := fun w' => by
    have h := pof_any c ys k hyb w'
    rw [hB0, hpo, show pofT c ys k = pfx c (pofX c ys k) k by rw [pofT, if_pos hpo], hQ0] at h
    exact h
  have C1 : Hid (∀ w', Calls Tryd.prog 12 #[.agg Q, .agg B] w' fun e w'' => e = .returned (.bool true) ∧ Fr No w' w'') := fun w' => by
    have h := cont_any c c (pofX c ys k) ys k (pofX_bytes hyb k) hyb w'
    rw [pof_cont hyb hpo, hQ0, hB0] at h
    exact h
  have C2 : Hid (∀ (d : Bool) (zs : List Nat) (j : Int), Bytes zs → ∀ w', Calls Tryd.prog 12 #[.agg (pfx d zs j).toArray, .agg B] w' fun e w'' => e = .returned (.bool (contP d zs j c ys)) ∧ Fr No w' w'') := fun d zs j hz w' => by
    have h := cont_any d c zs ys j hz hyb w'
    rw [hB0] at h
    exact h
  have C3 : Hid (∀ (d : Bool) (zs : List Nat), Bytes zs → contP d zs k c ys = decide ((d = c ∧ zs = pofX c ys k) ∧ k = k) ∧ ∀ w, Sem.run PD (Op.equalIn 10000 26 (.agg (pfx d zs k).toArray) (.agg Q)) w = .ok (decide ((d = c ∧ zs = pofX c ys k) ∧ k = k)) w) := fun d zs hz => ⟨cont_pof hz hyb hpo, fun w => by
    have h : Sem.run Tryd.prog (Op.equalIn 10000 26 (.agg (pfx d zs k).toArray) (.agg Q)) w = .ok (decide ((d = c ∧ zs = pofX c ys k) ∧ k = k)) w := by
      rw [← hQ0]
      exact pfx_eq k k hz (pofX_bytes hyb k) w
    exact h⟩
  have HQ : Hid (Q[17]? = some (.int .i64 k) ∧ ∀ u ∈ Q.toList, u.oneCell' = true) := ⟨hQ17, hQ1⟩
  have HSB : Hid (∀ w', Fr No z3 w' → Sem.run PD (loadCellsFrom ⟨ab, 0, none⟩ 0 k30 #[]) w' = .ok B w' ∧ Sem.run PD (loadCellsFrom ⟨nb + 1, 0, none⟩ 0 k40 #[]) w' = .ok P w') := fun w' hf => ⟨load_block (hf.keep HC.out.2) hBk (fun j v hv => by simpa using hv), (HSA.out w' (HC.out.1.trans hf)).2⟩
  have lb0 := (HSB.out z3 (Fr.refl No _)).1
  clear HSA hQ0 hQ17 hQs hQ1 hyv hyb hB0 h0B hBs hN hN128 hkn hmd hk
  go_wp2_with (first | (go_at_call 9; refine (at_prog HP.out (HBL.out _)).mono ?_; rintro e u4 ⟨rfl, hu4⟩) | (go_at_call 8; refine (at_prog HP.out (HMD.out _)).mono ?_; rintro e u5 ⟨rfl, hu5⟩; replace hu5 := hu5.symm; subst hu5; have lb1 := (HSB.out u4 hu4).1) | (go_at_call 5; refine (at_prog HP.out (HPO.out _)).mono ?_; rintro e u6 ⟨rfl, hu6⟩; obtain ⟨z6, hs6, hzb6, hzf6⟩ := store_all (P := PD) Q.toList (heap_alloc_new u6 (.cells Z 26)) (by rw [Array.length_toList, hQk, hZk]) HQ.out.2; have K6 : Fr No z3 z6 := ((hu4.trans hu6).trans (Fr.alloc No u6 (.cells Z 26))).ofNew hzf6 (fun k hk => .inr (by rw [hk]; exact (hu4.trans hu6).size)); have lp6 := (HSB.out z6 K6).2) | (go_at_call 10; refine (at_prog HP.out (G1.out _)).mono ?_; rintro e u7 ⟨d, zs, j, hzs, -, rfl, hu7⟩; have hRs : (pfx d zs j).toArray.size = k40 := (by rw [HK26.out]; exact pfx_size hzs); obtain ⟨z7, hs7, hzb7, hzf7⟩ := store_all (P := PD) (pfx d zs j).toArray.toList (heap_alloc_new u7 (.cells Z 26)) (by rw [Array.length_toList, hZk, hRs]) (pfx_ones _ _ _); have K67 : Fr No z6 z7 := (hu7.trans (Fr.alloc No u7 (.cells Z 26))).ofNew hzf7 (fun k hk => .inr (by rw [hk]; exact hu7.size))) | fail)
  obtain ⟨qb, hqb⟩ : ∃ qb, u6.heap.size = qb := ⟨_, rfl⟩
  obtain ⟨rb, hrb⟩ : ∃ rb, u7.heap.size = rb := ⟨_, rfl⟩
  rw [hqb] at hzb6 ⊢
  rw [hrb] at hzb7 ⊢
  have HD : Hid (Fr No w1 z7 ∧ z7.heap[ab]? = some (.cells B 24 (0, 0)) ∧ z7.heap[qb]? = some (.cells Q 26 (0, 0)) ∧ z7.heap[rb]? = some (.cells (pfx d zs j).toArray 26 (0, 0))) := ⟨HC.out.1.trans (K6.trans K67), (K6.trans K67).keep HC.out.2, K67.keep (by simpa using hzb6), by simpa using hzb7⟩
  clear hzb6 hzb7 hzf6 hzf7 hs6 hs7 hqb hrb K6 K67 hu4 hu6 hu7 lb0 lb1 lp6 HSB HC HBL HMD HPO G1
  have HCM : Hid (∀ w', Calls PD 12 #[.agg (pfx d zs j).toArray, .agg B] w' fun e w'' => e = .returned (.bool (contP d zs j c ys)) ∧ Fr No w' w'') := fun w' => at_prog HP.out (C2.out d zs j hzs w')
  obtain ⟨R, hR0, -, hR17, -, -, -⟩ := pfx_letter d zs j hzs
  have HC3 := C3.out d zs hzs
  have HSS : Hid (∀ w', Fr No z7 w' → Sem.run PD (loadCellsFrom ⟨ab, 0, none⟩ 0 k30 #[]) w' = .ok B w' ∧ Sem.run PD (loadCellsFrom ⟨qb, 0, none⟩ 0 k40 #[]) w' = .ok Q w' ∧ Sem.run PD (loadCellsFrom ⟨rb, 0, none⟩ 0 k40 #[]) w' = .ok R w' ∧ w'.cell? ⟨qb, 17, none⟩ = some (.int .i64 k) ∧ w'.cell? ⟨rb, 17, none⟩ = some (.int .i64 j)) := fun w' hf => by
    rw [hR0] at hRs HD
    exact ⟨load_block (hf.keep HD.out.2.1) hBk (fun j v hv => by simpa using hv), load_block (hf.keep HD.out.2.2.1) hQk (fun j v hv => by simpa using hv), load_block (hf.keep HD.out.2.2.2) hRs (fun j v hv => by simpa using hv), by rw [cell_of_row _ _ _ _ _ _ (hf.keep HD.out.2.2.1)]; exact HQ.out.1, by rw [cell_of_row _ _ _ _ _ _ (hf.keep HD.out.2.2.2)]; exact hR17⟩
  rw [hR0] at HCM HD
  have f5 : Fr No z7 z7.drew := Fr.drew No _
  have hS0 := HSS.out _ f5
  by_cases hjk : j = k
  · subst hjk
    obtain ⟨e5, hRe⟩ := HC3
    rw [hR0] at hRe
    rw [e5] at HCM
    clear e5 C2 C3 hRs hR0 hR17
    generalize decide ((d = c ∧ zs = pofX c ys j) ∧ j = j) = dq at HCM hRe
    have e6 : (j != j) = false := by simp
    have e7 : (j == j) = true := by simp
    have e8 : (dq == dq) = true := by simp
    refine wp_region_noPanic ?_
    refine wp_region_held_drew (S := (fun w' : World => Sem.run PD (loadCellsFrom ⟨ab, 0, none⟩ 0 k30 #[]) w' = .ok B w' ∧ Sem.run PD (loadCellsFrom ⟨qb, 0, none⟩ 0 k40 #[]) w' = .ok Q w' ∧ Sem.run PD (loadCellsFrom ⟨rb, 0, none⟩ 0 k40 #[]) w' = .ok R w' ∧ w'.cell? ⟨qb, 17, none⟩ = some (.int .i64 j) ∧ w'.cell? ⟨rb, 17, none⟩ = some (.int .i64 j))) (by kernel_rfl) hS0 (fun hHeld => ?_)
    clear hS0
    refine wpAnyH_ready (rs := [0]) (by kernel_rfl) (by simp) ?_
    refine (AllReadyH.cons (o := { dst := some 51, op := Op.call { callee := Callee.value (Operand.func 11), args := #[], argTypes := #[] }, type := 4, pos := "law.go:40", after := #[], guard := none }) rfl (fun K hK => ?_) AllReadyH.nil)
    go_simp
    go_at_call 11
    refine (at_prog HP.out (cawake_any _ (HB.out.2.2.2.1.fr ((HB.out.2.2.1.trans HD.out.1).trans f5)))).mono ?_
    rintro e xx1 ⟨rfl, hx2⟩
    have gg3 := f5.trans hx2
    have hS := HSS.out _ gg3
    clear hx2
    refine hK.out _ _ hS (fun hH2 => ?_)
    clear hK K hHeld
    have hHeld := hH2
    clear hH2 hS
    try simp only [Act.put, List.setIfInBounds_toArray, List.set_cons_zero, List.set_cons_succ]
    refine wpAnyH_take (i := 1) (oi := { dst := some 52, op := Op.move (Operand.tmp 51), type := 4, pos := "law.go:40", after := #[{ on := 0, ground := Ground.data }, { on := 0, ground := Ground.chain }], guard := none }) (v := ?v1x1) rfl (by kernel_rfl) (by kernel_rfl) (by kernel_rfl) (fun _ _ _ h => h) (Or.inl ⟨by rfl, ?hy1x1⟩) hHeld ?nx1x1
    case hy1x1 => (intro w hSw; (try dsimp only at hSw); go_simp; try with_reducible rfl)
    try simp only [Act.put, List.setIfInBounds_toArray, List.set_cons_zero, List.set_cons_succ]
    refine wpAnyH_take (i := 2) (oi := { dst := some 53, op := Op.move (Operand.tmp 14), type := 4, pos := "law.go:40", after := #[{ on := 1, ground := Ground.guard }], guard := some (1, true) }) (v := ?v2x2) rfl (by kernel_rfl) (by kernel_rfl) (by kernel_rfl) (fun _ _ _ h => h) (Or.inl ⟨by rfl, ?hy2x2⟩) hHeld ?nx2x2
    case hy2x2 => (intro w hSw; (try dsimp only at hSw); go_simp; try with_reducible rfl)
    try simp only [Act.put, List.setIfInBounds_toArray, List.set_cons_zero, List.set_cons_succ]
    refine wpAnyH_take (i := 3) (oi := { dst := some 54, op := Op.pick (Operand.tmp 52) (Operand.tmp 53) (Operand.const (Value.bool false)), type := 4, pos := "law.go:40", after := #[{ on := 1, ground := Ground.data }, { on := 2, ground := Ground.data }], guard := none }) (v := ?v3x3) rfl (by kernel_rfl) (by kernel_rfl) (by kernel_rfl) (fun _ _ _ h => h) (Or.inl ⟨by rfl, ?hy3x3⟩) hHeld ?nx3x3
    case hy3x3 => (intro w hSw; (try dsimp only at hSw); go_simp; try with_reducible rfl)
    try simp only [Act.put, List.setIfInBounds_toArray, List.set_cons_zero, List.set_cons_succ]
    refine wpAnyH_take (i := 4) (oi := { dst := some 55, op := Op.move (Operand.tmp 54), type := 4, pos := "law.go:40", after := #[{ on := 3, ground := Ground.data }, { on := 1, ground := Ground.chain }], guard := none }) (v := ?v4x4) rfl (by kernel_rfl) (by kernel_rfl) (by kernel_rfl) (fun _ _ _ h => h) (Or.inl ⟨by rfl, ?hy4x4⟩) hHeld ?nx4x4
    case hy4x4 => (intro w hSw; (try dsimp only at hSw); go_simp; try with_reducible rfl)
    try simp only [Act.put, List.setIfInBounds_toArray, List.set_cons_zero, List.set_cons_succ]
    refine wpAnyH_take (i := 5) (oi := { dst := some 56, op := Op.load 26 (Operand.tmp 13), type := 26, pos := "law.go:40", after := #[{ on := 4, ground := Ground.guard }], guard := some (4, true) }) (v := ?v5x5) rfl (by kernel_rfl) (by kernel_rfl) (by kernel_rfl) (fun _ _ _ h => h) (Or.inl ⟨by rfl, ?hy5x5⟩) hHeld ?nx5x5
    case hy5x5 => (intro w hSw; (try dsimp only at hSw); go_simp; try with_reducible rfl)
    try simp only [Act.put, List.setIfInBounds_toArray, List.set_cons_zero, List.set_cons_succ]
    refine wpAnyH_take (i := 6) (oi := { dst := some 57, op := Op.load 24 (Operand.tmp 11), type := 24, pos := "law.go:40", after := #[{ on := 4, ground := Ground.guard }], guard := some (4, true) }) (v := ?v6x6) rfl (by kernel_rfl) (by kernel_rfl) (by kernel_rfl) (fun _ _ _ h => h) (Or.inl ⟨by rfl, ?hy6x6⟩) hHeld ?nx6x6
    case hy6x6 => (intro w hSw; (try dsimp only at hSw); go_simp; try with_reducible rfl)
    try simp only [Act.put, List.setIfInBounds_toArray, List.set_cons_zero, List.set_cons_succ]
    refine wpAnyH_ready (rs := [7]) (by kernel_rfl) (by simp) ?_
    refine (AllReadyH.cons (o := { dst := some 58, op := Op.call { callee := Callee.value (Operand.func 12), args := #[Operand.tmp 56, Operand.tmp 57], argTypes := #[26, 24] }, type := 4, pos := "law.go:40", after := #[{ on := 5, ground := Ground.data }, { on := 6, ground := Ground.data }, { on := 4, ground := Ground.chain }, { on := 4, ground := Ground.guard }], guard := some (4, true) }) rfl (fun K hK => ?_) AllReadyH.nil)
    go_simp
    go_at_call 12
    refine (at_prog HP.out (C1.out _)).mono ?_
    rintro e xx4 ⟨rfl, hx5⟩
    have gg6 := gg3.trans hx5
    have hS := HSS.out _ gg6
    clear hx5
    refine hK.out _ _ hS (fun hH2 => ?_)
    clear hK K hHeld
    have hHeld := hH2
    clear hH2 hS
    try simp only [Act.put, List.setIfInBounds_toArray, List.set_cons_zero, List.set_cons_succ]
    refine wpAnyH_take (i := 8) (oi := { dst := some 59, op := Op.pick (Operand.tmp 55) (Operand.tmp 58) (Operand.const (Value.bool false)), type := 4, pos := "law.go:40", after := #[{ on := 4, ground := Ground.data }, { on := 7, ground := Ground.data }], guard := none }) (v := ?v8x7) rfl (by kernel_rfl) (by kernel_rfl) (by kernel_rfl) (fun _ _ _ h => h) (Or.inl ⟨by rfl, ?hy8x7⟩) hHeld ?nx8x7
    case hy8x7 => (intro w hSw; (try dsimp only at hSw); go_simp; try with_reducible rfl)
    try simp only [Act.put, List.setIfInBounds_toArray, List.set_cons_zero, List.set_cons_succ]
    refine wpAnyH_take (i := 9) (oi := { dst := some 60, op := Op.move (Operand.tmp 59), type := 4, pos := "law.go:40", after := #[{ on := 8, ground := Ground.data }, { on := 7, ground := Ground.chain }], guard := none }) (v := ?v9x8) rfl (by kernel_rfl) (by kernel_rfl) (by kernel_rfl) (fun _ _ _ h => h) (Or.inl ⟨by rfl, ?hy9x8⟩) hHeld ?nx9x8
    case hy9x8 => (intro w hSw; (try dsimp only at hSw); go_simp; try with_reducible rfl)
    try simp only [Act.put, List.setIfInBounds_toArray, List.set_cons_zero, List.set_cons_succ]
    refine wpAnyH_take (i := 10) (oi := { dst := some 61, op := Op.fieldAddr 26 (Operand.tmp 13) 1, type := 0, pos := "law.go:40", after := #[{ on := 9, ground := Ground.guard }], guard := some (9, true) }) (v := ?v10x9) rfl (by kernel_rfl) (by kernel_rfl) (by kernel_rfl) (fun _ _ _ h => h) (Or.inl ⟨by rfl, ?hy10x9⟩) hHeld ?nx10x9
    case hy10x9 => (intro w hSw; (try dsimp only at hSw); go_simp; try with_reducible rfl)
    try simp only [Act.put, List.setIfInBounds_toArray, List.set_cons_zero, List.set_cons_succ]
    refine wpAnyH_take (i := 11) (oi := { dst := some 62, op := Op.load 3 (Operand.tmp 61), type := 3, pos := "law.go:40", after := #[{ on := 10, ground := Ground.data }, { on := 9, ground := Ground.guard }], guard := some (9, true) }) (v := ?v11x10) rfl (by kernel_rfl) (by kernel_rfl) (by kernel_rfl) (fun _ _ _ h => h) (Or.inl ⟨by rfl, ?hy11x10⟩) hHeld ?nx11x10
    case hy11x10 => (intro w hSw; (try dsimp only at hSw); go_simp; try with_reducible rfl)
    try simp only [Act.put, List.setIfInBounds_toArray, List.set_cons_zero, List.set_cons_succ]
    refine wpAnyH_take (i := 12) (oi := { dst := some 63, op := Op.move (Operand.tmp 12), type := 3, pos := "law.go:40", after := #[{ on := 9, ground := Ground.guard }], guard := some (9, true) }) (v := ?v12x11) rfl (by kernel_rfl) (by kernel_rfl) (by kernel_rfl) (fun _ _ _ h => h) (Or.inl ⟨by rfl, ?hy12x11⟩) hHeld ?nx12x11
    case hy12x11 => (intro w hSw; (try dsimp only at hSw); go_simp; try with_reducible rfl)
    try simp only [Act.put, List.setIfInBounds_toArray, List.set_cons_zero, List.set_cons_succ]
    refine wpAnyH_take (i := 13) (oi := { dst := some 64, op := Op.binOp BinOp.eql 3 (Operand.tmp 62) (Operand.tmp 63) 3, type := 4, pos := "law.go:40", after := #[{ on := 11, ground := Ground.data }, { on := 12, ground := Ground.data }, { on := 9, ground := Ground.guard }], guard := some (9, true) }) (v := ?v13x12) rfl (by kernel_rfl) (by kernel_rfl) (by kernel_rfl) (fun _ _ _ h => h) (Or.inl ⟨by rfl, ?hy13x12⟩) hHeld ?nx13x12
    case hy13x12 => (intro w hSw; (try dsimp only at hSw); go_simp; try with_reducible rfl)
    try simp only [Act.put, List.setIfInBounds_toArray, List.set_cons_zero, List.set_cons_succ]
    refine wpAnyH_take (i := 14) (oi := { dst := some 65, op := Op.pick (Operand.tmp 60) (Operand.tmp 64) (Operand.const (Value.bool false)), type := 4, pos := "law.go:40", after := #[{ on := 9, ground := Ground.data }, { on := 13, ground := Ground.data }], guard := none }) (v := ?v14x13) rfl (by kernel_rfl) (by kernel_rfl) (by kernel_rfl) (fun _ _ _ h => h) (Or.inl ⟨by rfl, ?hy14x13⟩) hHeld ?nx14x13
    case hy14x13 => (intro w hSw; (try dsimp only at hSw); go_simp; try with_reducible rfl)
    try simp only [Act.put, List.setIfInBounds_toArray, List.set_cons_zero, List.set_cons_succ]
    refine wpAnyH_take (i := 15) (oi := { dst := some 66, op := Op.move (Operand.tmp 65), type := 4, pos := "law.go:40", after := #[{ on := 14, ground := Ground.data }, { on := 9, ground := Ground.chain }], guard := none }) (v := ?v15x14) rfl (by kernel_rfl) (by kernel_rfl) (by kernel_rfl) (fun _ _ _ h => h) (Or.inl ⟨by rfl, ?hy15x14⟩) hHeld ?nx15x14
    case hy15x14 => (intro w hSw; (try dsimp only at hSw); go_simp; try with_reducible rfl)
    try simp only [Act.put, List.setIfInBounds_toArray, List.set_cons_zero, List.set_cons_succ]
    refine wpAnyH_take (i := 16) (oi := { dst := some 67, op := Op.fieldAddr 26 (Operand.tmp 15) 1, type := 0, pos := "law.go:40", after := #[{ on := 15, ground := Ground.guard }], guard := some (15, true) }) (v := ?v16x15) rfl (by kernel_rfl) (by kernel_rfl) (by kernel_rfl) (fun _ _ _ h => h) (Or.inl ⟨by rfl, ?hy16x15⟩) hHeld ?nx16x15
    case hy16x15 => (intro w hSw; (try dsimp only at hSw); go_simp; try with_reducible rfl)
    try simp only [Act.put, List.setIfInBounds_toArray, List.set_cons_zero, List.set_cons_succ]
    refine wpAnyH_take (i := 17) (oi := { dst := some 68, op := Op.load 3 (Operand.tmp 67), type := 3, pos := "law.go:40", after := #[{ on := 16, ground := Ground.data }, { on := 15, ground := Ground.guard }], guard := some (15, true) }) (v := ?v17x16) rfl (by kernel_rfl) (by kernel_rfl) (by kernel_rfl) (fun _ _ _ h => h) (Or.inl ⟨by rfl, ?hy17x16⟩) hHeld ?nx17x16
    case hy17x16 => (intro w hSw; (try dsimp only at hSw); go_simp; try with_reducible rfl)
    try simp only [Act.put, List.setIfInBounds_toArray, List.set_cons_zero, List.set_cons_succ]
    refine wpAnyH_take (i := 18) (oi := { dst := some 69, op := Op.move (Operand.tmp 12), type := 3, pos := "law.go:40", after := #[{ on := 15, ground := Ground.guard }], guard := some (15, true) }) (v := ?v18x17) rfl (by kernel_rfl) (by kernel_rfl) (by kernel_rfl) (fun _ _ _ h => h) (Or.inl ⟨by rfl, ?hy18x17⟩) hHeld ?nx18x17
    case hy18x17 => (intro w hSw; (try dsimp only at hSw); go_simp; try with_reducible rfl)
    try simp only [Act.put, List.setIfInBounds_toArray, List.set_cons_zero, List.set_cons_succ]
    refine wpAnyH_take (i := 19) (oi := { dst := some 70, op := Op.binOp BinOp.neq 3 (Operand.tmp 68) (Operand.tmp 69) 3, type := 4, pos := "law.go:40", after := #[{ on := 17, ground := Ground.data }, { on := 18, ground := Ground.data }, { on := 15, ground := Ground.guard }], guard := some (15, true) }) (v := ?v19x18) rfl (by kernel_rfl) (by kernel_rfl) (by kernel_rfl) (fun _ _ _ h => h) (Or.inl ⟨by rfl, ?hy19x18⟩) hHeld ?nx19x18
    case hy19x18 => (intro w hSw; (try dsimp only at hSw); go_simp; try with_reducible rfl)
    try simp only [Act.put, List.setIfInBounds_toArray, List.set_cons_zero, List.set_cons_succ]
    refine wpAnyH_take (i := 20) (oi := { dst := some 71, op := Op.move (Operand.tmp 70), type := 4, pos := "law.go:40", after := #[{ on := 19, ground := Ground.data }, { on := 15, ground := Ground.chain }, { on := 15, ground := Ground.guard }], guard := some (15, true) }) (v := ?v20x19) rfl (by kernel_rfl) (by kernel_rfl) (by kernel_rfl) (fun _ _ _ h => h) (Or.inl ⟨by rfl, ?hy20x19⟩) hHeld ?nx20x19
    case hy20x19 => (intro w hSw; (try dsimp only at hSw); go_simp; try with_reducible rfl)
    try simp only [Act.put, List.setIfInBounds_toArray, List.set_cons_zero, List.set_cons_succ]
    refine wpAnyH_take (i := 21) (oi := { dst := some 72, op := Op.load 26 (Operand.tmp 15), type := 26, pos := "law.go:40", after := #[{ on := 20, ground := Ground.guard }], guard := some (20, false) }) (v := ?v21x20) rfl (by kernel_rfl) (by kernel_rfl) (by kernel_rfl) (fun _ _ _ h => h) (Or.inl ⟨by rfl, ?hy21x20⟩) hHeld ?nx21x20
    case hy21x20 => (intro w hSw; (try dsimp only at hSw); go_simp; try with_reducible rfl)
    try simp only [Act.put, List.setIfInBounds_toArray, List.set_cons_zero, List.set_cons_succ]
    refine wpAnyH_take (i := 22) (oi := { dst := some 73, op := Op.load 24 (Operand.tmp 11), type := 24, pos := "law.go:40", after := #[{ on := 20, ground := Ground.guard }], guard := some (20, false) }) (v := ?v22x21) rfl (by kernel_rfl) (by kernel_rfl) (by kernel_rfl) (fun _ _ _ h => h) (Or.inl ⟨by rfl, ?hy22x21⟩) hHeld ?nx22x21
    case hy22x21 => (intro w hSw; (try dsimp only at hSw); go_simp; try with_reducible rfl)
    try simp only [Act.put, List.setIfInBounds_toArray, List.set_cons_zero, List.set_cons_succ]
    refine wpAnyH_take (i := 24) (oi := { dst := some 75, op := Op.load 26 (Operand.tmp 15), type := 26, pos := "law.go:40", after := #[{ on := 20, ground := Ground.guard }], guard := some (20, false) }) (v := ?v24x22) rfl (by kernel_rfl) (by kernel_rfl) (by kernel_rfl) (fun _ _ _ h => h) (Or.inl ⟨by rfl, ?hy24x22⟩) hHeld ?nx24x22
    case hy24x22 => (intro w hSw; (try dsimp only at hSw); go_simp; try with_reducible rfl)
    try simp only [Act.put, List.setIfInBounds_toArray, List.set_cons_zero, List.set_cons_succ]
    refine wpAnyH_take (i := 25) (oi := { dst := some 76, op := Op.load 26 (Operand.tmp 13), type := 26, pos := "law.go:40", after := #[{ on := 20, ground := Ground.guard }], guard := some (20, false) }) (v := ?v25x23) rfl (by kernel_rfl) (by kernel_rfl) (by kernel_rfl) (fun _ _ _ h => h) (Or.inl ⟨by rfl, ?hy25x23⟩) hHeld ?nx25x23
    case hy25x23 => (intro w hSw; (try dsimp only at hSw); go_simp; try with_reducible rfl)
    try simp only [Act.put, List.setIfInBounds_toArray, List.set_cons_zero, List.set_cons_succ]
    refine wpAnyH_take (i := 26) (oi := { dst := some 77, op := Op.binOp BinOp.eql 26 (Operand.tmp 75) (Operand.tmp 76) 26, type := 4, pos := "law.go:40", after := #[{ on := 24, ground := Ground.data }, { on := 25, ground := Ground.data }, { on := 20, ground := Ground.guard }], guard := some (20, false) }) (v := ?v26x24) rfl (by kernel_rfl) (by kernel_rfl) (by kernel_rfl) (fun _ _ _ h => h) (Or.inl ⟨by rfl, ?hy26x24⟩) hHeld ?nx26x24
    case hy26x24 => (intro w hSw; (try dsimp only at hSw); go_simp; try with_reducible rfl)
    try simp only [Act.put, List.setIfInBounds_toArray, List.set_cons_zero, List.set_cons_succ]
    refine wpAnyH_ready (rs := [23]) (by kernel_rfl) (by simp) ?_
    refine (AllReadyH.cons (o := { dst := some 74, op := Op.call { callee := Callee.value (Operand.func 12), args := #[Operand.tmp 72, Operand.tmp 73], argTypes := #[26, 24] }, type := 4, pos := "law.go:40", after := #[{ on := 21, ground := Ground.data }, { on := 22, ground := Ground.data }, { on := 20, ground := Ground.chain }, { on := 20, ground := Ground.guard }], guard := some (20, false) }) rfl (fun K hK => ?_) AllReadyH.nil)
    go_simp
    go_at_call 12
    refine (HCM.out _).mono ?_
    rintro e xx7 ⟨rfl, hx8⟩
    have gg9 := gg6.trans hx8
    have hS := HSS.out _ gg9
    clear hx8
    refine hK.out _ _ hS (fun hH2 => ?_)
    clear hK K hHeld
    have hHeld := hH2
    clear hH2 hS
    try simp only [Act.put, List.setIfInBounds_toArray, List.set_cons_zero, List.set_cons_succ]
    refine wpAnyH_take (i := 27) (oi := { dst := some 78, op := Op.binOp BinOp.eql 4 (Operand.tmp 74) (Operand.tmp 77) 4, type := 4, pos := "law.go:40", after := #[{ on := 23, ground := Ground.data }, { on := 26, ground := Ground.data }, { on := 20, ground := Ground.guard }], guard := some (20, false) }) (v := ?v27x25) rfl (by kernel_rfl) (by kernel_rfl) (by kernel_rfl) (fun _ _ _ h => h) (Or.inl ⟨by rfl, ?hy27x25⟩) hHeld ?nx27x25
    case hy27x25 => (intro w hSw; (try dsimp only at hSw); go_simp; try with_reducible rfl)
    try simp only [Act.put, List.setIfInBounds_toArray, List.set_cons_zero, List.set_cons_succ]
    refine wpAnyH_take (i := 28) (oi := { dst := some 79, op := Op.pick (Operand.tmp 71) (Operand.const (Value.bool true)) (Operand.tmp 78), type := 4, pos := "law.go:40", after := #[{ on := 20, ground := Ground.data }, { on := 27, ground := Ground.data }, { on := 15, ground := Ground.guard }], guard := some (15, true) }) (v := ?v28x26) rfl (by kernel_rfl) (by kernel_rfl) (by kernel_rfl) (fun _ _ _ h => h) (Or.inl ⟨by rfl, ?hy28x26⟩) hHeld ?nx28x26
    case hy28x26 => (intro w hSw; (try dsimp only at hSw); go_simp; try with_reducible rfl)
    try simp only [Act.put, List.setIfInBounds_toArray, List.set_cons_zero, List.set_cons_succ]
    refine wpAnyH_take (i := 29) (oi := { dst := some 80, op := Op.pick (Operand.tmp 66) (Operand.tmp 79) (Operand.const (Value.bool false)), type := 4, pos := "law.go:40", after := #[{ on := 15, ground := Ground.data }, { on := 28, ground := Ground.data }], guard := none }) (v := ?v29x27) rfl (by kernel_rfl) (by kernel_rfl) (by kernel_rfl) (fun _ _ _ h => h) (Or.inl ⟨by rfl, ?hy29x27⟩) hHeld ?nx29x27
    case hy29x27 => (intro w hSw; (try dsimp only at hSw); go_simp; try with_reducible rfl)
    try simp only [Act.put, List.setIfInBounds_toArray, List.set_cons_zero, List.set_cons_succ]
    refine wpAnyH_take (i := 30) (oi := { dst := some 6, op := Op.assign (Operand.tmp 80), type := 4, pos := "law.go:40", after := #[{ on := 29, ground := Ground.data }, { on := 23, ground := Ground.chain }, { on := 0, ground := Ground.phase }, { on := 1, ground := Ground.phase }, { on := 2, ground := Ground.phase }, { on := 3, ground := Ground.phase }, { on := 4, ground := Ground.phase }, { on := 5, ground := Ground.phase }, { on := 6, ground := Ground.phase }, { on := 7, ground := Ground.phase }, { on := 8, ground := Ground.phase }, { on := 9, ground := Ground.phase }, { on := 10, ground := Ground.phase }, { on := 11, ground := Ground.phase }, { on := 12, ground := Ground.phase }, { on := 13, ground := Ground.phase }, { on := 14, ground := Ground.phase }, { on := 15, ground := Ground.phase }, { on := 16, ground := Ground.phase }, { on := 17, ground := Ground.phase }, { on := 18, ground := Ground.phase }, { on := 19, ground := Ground.phase }, { on := 20, ground := Ground.phase }, { on := 21, ground := Ground.phase }, { on := 22, ground := Ground.phase }, { on := 23, ground := Ground.phase }, { on := 24, ground := Ground.phase }, { on := 25, ground := Ground.phase }, { on := 26, ground := Ground.phase }, { on := 27, ground := Ground.phase }, { on := 28, ground := Ground.phase }, { on := 29, ground := Ground.phase }], guard := none }) (v := ?v30x28) rfl (by kernel_rfl) (by kernel_rfl) (by kernel_rfl) (fun _ _ _ h => h) (Or.inl ⟨by rfl, ?hy30x28⟩) hHeld ?nx30x28
    case hy30x28 => (intro w hSw; (try dsimp only at hSw); go_simp; try with_reducible rfl)
    try simp only [Act.put, List.setIfInBounds_toArray, List.set_cons_zero, List.set_cons_succ]
    refine wpAnyH_done (by kernel_rfl) ?_ _
    refine NoPanic.normal ?_
    go_wp2_with fail
    go_ret
    exact ⟨rfl, (HB.out.2.2.1.trans HD.out.1).trans gg9⟩
  · have e6 : (j != k) = true := by simpa using hjk
    have e7 : (k == k) = true := by simp
    clear C2 C3 HC3 HCM hRs hR0 hR17
    refine wp_region_noPanic ?_
    refine wp_region_held_drew (S := (fun w' : World => Sem.run PD (loadCellsFrom ⟨ab, 0, none⟩ 0 k30 #[]) w' = .ok B w' ∧ Sem.run PD (loadCellsFrom ⟨qb, 0, none⟩ 0 k40 #[]) w' = .ok Q w' ∧ Sem.run PD (loadCellsFrom ⟨rb, 0, none⟩ 0 k40 #[]) w' = .ok R w' ∧ w'.cell? ⟨qb, 17, none⟩ = some (.int .i64 k) ∧ w'.cell? ⟨rb, 17, none⟩ = some (.int .i64 j))) (by kernel_rfl) hS0 (fun hHeld => ?_)
    clear hS0
    refine wpAnyH_ready (rs := [0]) (by kernel_rfl) (by simp) ?_
    refine (AllReadyH.cons (o := { dst := some 51, op := Op.call { callee := Callee.value (Operand.func 11), args := #[], argTypes := #[] }, type := 4, pos := "law.go:40", after := #[], guard := none }) rfl (fun K hK => ?_) AllReadyH.nil)
    go_simp
    go_at_call 11
    refine (at_prog HP.out (cawake_any _ (HB.out.2.2.2.1.fr ((HB.out.2.2.1.trans HD.out.1).trans f5)))).mono ?_
    rintro e xx10 ⟨rfl, hx11⟩
    have gg12 := f5.trans hx11
    have hS := HSS.out _ gg12
    clear hx11
    refine hK.out _ _ hS (fun hH2 => ?_)
    clear hK K hHeld
    have hHeld := hH2
    clear hH2 hS
    try simp only [Act.put, List.setIfInBounds_toArray, List.set_cons_zero, List.set_cons_succ]
    refine wpAnyH_take (i := 1) (oi := { dst := some 52, op := Op.move (Operand.tmp 51), type := 4, pos := "law.go:40", after := #[{ on := 0, ground := Ground.data }, { on := 0, ground := Ground.chain }], guard := none }) (v := ?v1x29) rfl (by kernel_rfl) (by kernel_rfl) (by kernel_rfl) (fun _ _ _ h => h) (Or.inl ⟨by rfl, ?hy1x29⟩) hHeld ?nx1x29
    case hy1x29 => (intro w hSw; (try dsimp only at hSw); go_simp; try with_reducible rfl)
    try simp only [Act.put, List.setIfInBounds_toArray, List.set_cons_zero, List.set_cons_succ]
    refine wpAnyH_take (i := 2) (oi := { dst := some 53, op := Op.move (Operand.tmp 14), type := 4, pos := "law.go:40", after := #[{ on := 1, ground := Ground.guard }], guard := some (1, true) }) (v := ?v2x30) rfl (by kernel_rfl) (by kernel_rfl) (by kernel_rfl) (fun _ _ _ h => h) (Or.inl ⟨by rfl, ?hy2x30⟩) hHeld ?nx2x30
    case hy2x30 => (intro w hSw; (try dsimp only at hSw); go_simp; try with_reducible rfl)
    try simp only [Act.put, List.setIfInBounds_toArray, List.set_cons_zero, List.set_cons_succ]
    refine wpAnyH_take (i := 3) (oi := { dst := some 54, op := Op.pick (Operand.tmp 52) (Operand.tmp 53) (Operand.const (Value.bool false)), type := 4, pos := "law.go:40", after := #[{ on := 1, ground := Ground.data }, { on := 2, ground := Ground.data }], guard := none }) (v := ?v3x31) rfl (by kernel_rfl) (by kernel_rfl) (by kernel_rfl) (fun _ _ _ h => h) (Or.inl ⟨by rfl, ?hy3x31⟩) hHeld ?nx3x31
    case hy3x31 => (intro w hSw; (try dsimp only at hSw); go_simp; try with_reducible rfl)
    try simp only [Act.put, List.setIfInBounds_toArray, List.set_cons_zero, List.set_cons_succ]
    refine wpAnyH_take (i := 4) (oi := { dst := some 55, op := Op.move (Operand.tmp 54), type := 4, pos := "law.go:40", after := #[{ on := 3, ground := Ground.data }, { on := 1, ground := Ground.chain }], guard := none }) (v := ?v4x32) rfl (by kernel_rfl) (by kernel_rfl) (by kernel_rfl) (fun _ _ _ h => h) (Or.inl ⟨by rfl, ?hy4x32⟩) hHeld ?nx4x32
    case hy4x32 => (intro w hSw; (try dsimp only at hSw); go_simp; try with_reducible rfl)
    try simp only [Act.put, List.setIfInBounds_toArray, List.set_cons_zero, List.set_cons_succ]
    refine wpAnyH_take (i := 5) (oi := { dst := some 56, op := Op.load 26 (Operand.tmp 13), type := 26, pos := "law.go:40", after := #[{ on := 4, ground := Ground.guard }], guard := some (4, true) }) (v := ?v5x33) rfl (by kernel_rfl) (by kernel_rfl) (by kernel_rfl) (fun _ _ _ h => h) (Or.inl ⟨by rfl, ?hy5x33⟩) hHeld ?nx5x33
    case hy5x33 => (intro w hSw; (try dsimp only at hSw); go_simp; try with_reducible rfl)
    try simp only [Act.put, List.setIfInBounds_toArray, List.set_cons_zero, List.set_cons_succ]
    refine wpAnyH_take (i := 6) (oi := { dst := some 57, op := Op.load 24 (Operand.tmp 11), type := 24, pos := "law.go:40", after := #[{ on := 4, ground := Ground.guard }], guard := some (4, true) }) (v := ?v6x34) rfl (by kernel_rfl) (by kernel_rfl) (by kernel_rfl) (fun _ _ _ h => h) (Or.inl ⟨by rfl, ?hy6x34⟩) hHeld ?nx6x34
    case hy6x34 => (intro w hSw; (try dsimp only at hSw); go_simp; try with_reducible rfl)
    try simp only [Act.put, List.setIfInBounds_toArray, List.set_cons_zero, List.set_cons_succ]
    refine wpAnyH_ready (rs := [7]) (by kernel_rfl) (by simp) ?_
    refine (AllReadyH.cons (o := { dst := some 58, op := Op.call { callee := Callee.value (Operand.func 12), args := #[Operand.tmp 56, Operand.tmp 57], argTypes := #[26, 24] }, type := 4, pos := "law.go:40", after := #[{ on := 5, ground := Ground.data }, { on := 6, ground := Ground.data }, { on := 4, ground := Ground.chain }, { on := 4, ground := Ground.guard }], guard := some (4, true) }) rfl (fun K hK => ?_) AllReadyH.nil)
    go_simp
    go_at_call 12
    refine (at_prog HP.out (C1.out _)).mono ?_
    rintro e xx13 ⟨rfl, hx14⟩
    have gg15 := gg12.trans hx14
    have hS := HSS.out _ gg15
    clear hx14
    refine hK.out _ _ hS (fun hH2 => ?_)
    clear hK K hHeld
    have hHeld := hH2
    clear hH2 hS
    try simp only [Act.put, List.setIfInBounds_toArray, List.set_cons_zero, List.set_cons_succ]
    refine wpAnyH_take (i := 8) (oi := { dst := some 59, op := Op.pick (Operand.tmp 55) (Operand.tmp 58) (Operand.const (Value.bool false)), type := 4, pos := "law.go:40", after := #[{ on := 4, ground := Ground.data }, { on := 7, ground := Ground.data }], guard := none }) (v := ?v8x35) rfl (by kernel_rfl) (by kernel_rfl) (by kernel_rfl) (fun _ _ _ h => h) (Or.inl ⟨by rfl, ?hy8x35⟩) hHeld ?nx8x35
    case hy8x35 => (intro w hSw; (try dsimp only at hSw); go_simp; try with_reducible rfl)
    try simp only [Act.put, List.setIfInBounds_toArray, List.set_cons_zero, List.set_cons_succ]
    refine wpAnyH_take (i := 9) (oi := { dst := some 60, op := Op.move (Operand.tmp 59), type := 4, pos := "law.go:40", after := #[{ on := 8, ground := Ground.data }, { on := 7, ground := Ground.chain }], guard := none }) (v := ?v9x36) rfl (by kernel_rfl) (by kernel_rfl) (by kernel_rfl) (fun _ _ _ h => h) (Or.inl ⟨by rfl, ?hy9x36⟩) hHeld ?nx9x36
    case hy9x36 => (intro w hSw; (try dsimp only at hSw); go_simp; try with_reducible rfl)
    try simp only [Act.put, List.setIfInBounds_toArray, List.set_cons_zero, List.set_cons_succ]
    refine wpAnyH_take (i := 10) (oi := { dst := some 61, op := Op.fieldAddr 26 (Operand.tmp 13) 1, type := 0, pos := "law.go:40", after := #[{ on := 9, ground := Ground.guard }], guard := some (9, true) }) (v := ?v10x37) rfl (by kernel_rfl) (by kernel_rfl) (by kernel_rfl) (fun _ _ _ h => h) (Or.inl ⟨by rfl, ?hy10x37⟩) hHeld ?nx10x37
    case hy10x37 => (intro w hSw; (try dsimp only at hSw); go_simp; try with_reducible rfl)
    try simp only [Act.put, List.setIfInBounds_toArray, List.set_cons_zero, List.set_cons_succ]
    refine wpAnyH_take (i := 11) (oi := { dst := some 62, op := Op.load 3 (Operand.tmp 61), type := 3, pos := "law.go:40", after := #[{ on := 10, ground := Ground.data }, { on := 9, ground := Ground.guard }], guard := some (9, true) }) (v := ?v11x38) rfl (by kernel_rfl) (by kernel_rfl) (by kernel_rfl) (fun _ _ _ h => h) (Or.inl ⟨by rfl, ?hy11x38⟩) hHeld ?nx11x38
    case hy11x38 => (intro w hSw; (try dsimp only at hSw); go_simp; try with_reducible rfl)
    try simp only [Act.put, List.setIfInBounds_toArray, List.set_cons_zero, List.set_cons_succ]
    refine wpAnyH_take (i := 12) (oi := { dst := some 63, op := Op.move (Operand.tmp 12), type := 3, pos := "law.go:40", after := #[{ on := 9, ground := Ground.guard }], guard := some (9, true) }) (v := ?v12x39) rfl (by kernel_rfl) (by kernel_rfl) (by kernel_rfl) (fun _ _ _ h => h) (Or.inl ⟨by rfl, ?hy12x39⟩) hHeld ?nx12x39
    case hy12x39 => (intro w hSw; (try dsimp only at hSw); go_simp; try with_reducible rfl)
    try simp only [Act.put, List.setIfInBounds_toArray, List.set_cons_zero, List.set_cons_succ]
    refine wpAnyH_take (i := 13) (oi := { dst := some 64, op := Op.binOp BinOp.eql 3 (Operand.tmp 62) (Operand.tmp 63) 3, type := 4, pos := "law.go:40", after := #[{ on := 11, ground := Ground.data }, { on := 12, ground := Ground.data }, { on := 9, ground := Ground.guard }], guard := some (9, true) }) (v := ?v13x40) rfl (by kernel_rfl) (by kernel_rfl) (by kernel_rfl) (fun _ _ _ h => h) (Or.inl ⟨by rfl, ?hy13x40⟩) hHeld ?nx13x40
    case hy13x40 => (intro w hSw; (try dsimp only at hSw); go_simp; try with_reducible rfl)
    try simp only [Act.put, List.setIfInBounds_toArray, List.set_cons_zero, List.set_cons_succ]
    refine wpAnyH_take (i := 14) (oi := { dst := some 65, op := Op.pick (Operand.tmp 60) (Operand.tmp 64) (Operand.const (Value.bool false)), type := 4, pos := "law.go:40", after := #[{ on := 9, ground := Ground.data }, { on := 13, ground := Ground.data }], guard := none }) (v := ?v14x41) rfl (by kernel_rfl) (by kernel_rfl) (by kernel_rfl) (fun _ _ _ h => h) (Or.inl ⟨by rfl, ?hy14x41⟩) hHeld ?nx14x41
    case hy14x41 => (intro w hSw; (try dsimp only at hSw); go_simp; try with_reducible rfl)
    try simp only [Act.put, List.setIfInBounds_toArray, List.set_cons_zero, List.set_cons_succ]
    refine wpAnyH_take (i := 15) (oi := { dst := some 66, op := Op.move (Operand.tmp 65), type := 4, pos := "law.go:40", after := #[{ on := 14, ground := Ground.data }, { on := 9, ground := Ground.chain }], guard := none }) (v := ?v15x42) rfl (by kernel_rfl) (by kernel_rfl) (by kernel_rfl) (fun _ _ _ h => h) (Or.inl ⟨by rfl, ?hy15x42⟩) hHeld ?nx15x42
    case hy15x42 => (intro w hSw; (try dsimp only at hSw); go_simp; try with_reducible rfl)
    try simp only [Act.put, List.setIfInBounds_toArray, List.set_cons_zero, List.set_cons_succ]
    refine wpAnyH_take (i := 16) (oi := { dst := some 67, op := Op.fieldAddr 26 (Operand.tmp 15) 1, type := 0, pos := "law.go:40", after := #[{ on := 15, ground := Ground.guard }], guard := some (15, true) }) (v := ?v16x43) rfl (by kernel_rfl) (by kernel_rfl) (by kernel_rfl) (fun _ _ _ h => h) (Or.inl ⟨by rfl, ?hy16x43⟩) hHeld ?nx16x43
    case hy16x43 => (intro w hSw; (try dsimp only at hSw); go_simp; try with_reducible rfl)
    try simp only [Act.put, List.setIfInBounds_toArray, List.set_cons_zero, List.set_cons_succ]
    refine wpAnyH_take (i := 17) (oi := { dst := some 68, op := Op.load 3 (Operand.tmp 67), type := 3, pos := "law.go:40", after := #[{ on := 16, ground := Ground.data }, { on := 15, ground := Ground.guard }], guard := some (15, true) }) (v := ?v17x44) rfl (by kernel_rfl) (by kernel_rfl) (by kernel_rfl) (fun _ _ _ h => h) (Or.inl ⟨by rfl, ?hy17x44⟩) hHeld ?nx17x44
    case hy17x44 => (intro w hSw; (try dsimp only at hSw); go_simp; try with_reducible rfl)
    try simp only [Act.put, List.setIfInBounds_toArray, List.set_cons_zero, List.set_cons_succ]
    refine wpAnyH_take (i := 18) (oi := { dst := some 69, op := Op.move (Operand.tmp 12), type := 3, pos := "law.go:40", after := #[{ on := 15, ground := Ground.guard }], guard := some (15, true) }) (v := ?v18x45) rfl (by kernel_rfl) (by kernel_rfl) (by kernel_rfl) (fun _ _ _ h => h) (Or.inl ⟨by rfl, ?hy18x45⟩) hHeld ?nx18x45
    case hy18x45 => (intro w hSw; (try dsimp only at hSw); go_simp; try with_reducible rfl)
    try simp only [Act.put, List.setIfInBounds_toArray, List.set_cons_zero, List.set_cons_succ]
    refine wpAnyH_take (i := 19) (oi := { dst := some 70, op := Op.binOp BinOp.neq 3 (Operand.tmp 68) (Operand.tmp 69) 3, type := 4, pos := "law.go:40", after := #[{ on := 17, ground := Ground.data }, { on := 18, ground := Ground.data }, { on := 15, ground := Ground.guard }], guard := some (15, true) }) (v := ?v19x46) rfl (by kernel_rfl) (by kernel_rfl) (by kernel_rfl) (fun _ _ _ h => h) (Or.inl ⟨by rfl, ?hy19x46⟩) hHeld ?nx19x46
    case hy19x46 => (intro w hSw; (try dsimp only at hSw); go_simp; try with_reducible rfl)
    try simp only [Act.put, List.setIfInBounds_toArray, List.set_cons_zero, List.set_cons_succ]
    refine wpAnyH_take (i := 20) (oi := { dst := some 71, op := Op.move (Operand.tmp 70), type := 4, pos := "law.go:40", after := #[{ on := 19, ground := Ground.data }, { on := 15, ground := Ground.chain }, { on := 15, ground := Ground.guard }], guard := some (15, true) }) (v := ?v20x47) rfl (by kernel_rfl) (by kernel_rfl) (by kernel_rfl) (fun _ _ _ h => h) (Or.inl ⟨by rfl, ?hy20x47⟩) hHeld ?nx20x47
    case hy20x47 => (intro w hSw; (try dsimp only at hSw); go_simp; try with_reducible rfl)
    try simp only [Act.put, List.setIfInBounds_toArray, List.set_cons_zero, List.set_cons_succ]
    refine wpAnyH_take (i := 21) (oi := { dst := some 72, op := Op.load 26 (Operand.tmp 15), type := 26, pos := "law.go:40", after := #[{ on := 20, ground := Ground.guard }], guard := some (20, false) }) (v := undef) rfl (by kernel_rfl) (by kernel_rfl) (by kernel_rfl) (fun _ _ _ h => h) (Or.inr ⟨by rfl, rfl⟩) hHeld ?nx21x48
    try simp only [Act.put, List.setIfInBounds_toArray, List.set_cons_zero, List.set_cons_succ]
    refine wpAnyH_take (i := 22) (oi := { dst := some 73, op := Op.load 24 (Operand.tmp 11), type := 24, pos := "law.go:40", after := #[{ on := 20, ground := Ground.guard }], guard := some (20, false) }) (v := undef) rfl (by kernel_rfl) (by kernel_rfl) (by kernel_rfl) (fun _ _ _ h => h) (Or.inr ⟨by rfl, rfl⟩) hHeld ?nx22x49
    try simp only [Act.put, List.setIfInBounds_toArray, List.set_cons_zero, List.set_cons_succ]
    refine wpAnyH_take (i := 23) (oi := { dst := some 74, op := Op.call { callee := Callee.value (Operand.func 12), args := #[Operand.tmp 72, Operand.tmp 73], argTypes := #[26, 24] }, type := 4, pos := "law.go:40", after := #[{ on := 21, ground := Ground.data }, { on := 22, ground := Ground.data }, { on := 20, ground := Ground.chain }, { on := 20, ground := Ground.guard }], guard := some (20, false) }) (v := undef) rfl (by kernel_rfl) (by kernel_rfl) (by kernel_rfl) (fun _ _ _ h => h) (Or.inr ⟨by rfl, rfl⟩) hHeld ?nx23x50
    try simp only [Act.put, List.setIfInBounds_toArray, List.set_cons_zero, List.set_cons_succ]
    refine wpAnyH_take (i := 24) (oi := { dst := some 75, op := Op.load 26 (Operand.tmp 15), type := 26, pos := "law.go:40", after := #[{ on := 20, ground := Ground.guard }], guard := some (20, false) }) (v := undef) rfl (by kernel_rfl) (by kernel_rfl) (by kernel_rfl) (fun _ _ _ h => h) (Or.inr ⟨by rfl, rfl⟩) hHeld ?nx24x51
    try simp only [Act.put, List.setIfInBounds_toArray, List.set_cons_zero, List.set_cons_succ]
    refine wpAnyH_take (i := 25) (oi := { dst := some 76, op := Op.load 26 (Operand.tmp 13), type := 26, pos := "law.go:40", after := #[{ on := 20, ground := Ground.guard }], guard := some (20, false) }) (v := undef) rfl (by kernel_rfl) (by kernel_rfl) (by kernel_rfl) (fun _ _ _ h => h) (Or.inr ⟨by rfl, rfl⟩) hHeld ?nx25x52
    try simp only [Act.put, List.setIfInBounds_toArray, List.set_cons_zero, List.set_cons_succ]
    refine wpAnyH_take (i := 26) (oi := { dst := some 77, op := Op.binOp BinOp.eql 26 (Operand.tmp 75) (Operand.tmp 76) 26, type := 4, pos := "law.go:40", after := #[{ on := 24, ground := Ground.data }, { on := 25, ground := Ground.data }, { on := 20, ground := Ground.guard }], guard := some (20, false) }) (v := undef) rfl (by kernel_rfl) (by kernel_rfl) (by kernel_rfl) (fun _ _ _ h => h) (Or.inr ⟨by rfl, rfl⟩) hHeld ?nx26x53
    try simp only [Act.put, List.setIfInBounds_toArray, List.set_cons_zero, List.set_cons_succ]
    refine wpAnyH_take (i := 27) (oi := { dst := some 78, op := Op.binOp BinOp.eql 4 (Operand.tmp 74) (Operand.tmp 77) 4, type := 4, pos := "law.go:40", after := #[{ on := 23, ground := Ground.data }, { on := 26, ground := Ground.data }, { on := 20, ground := Ground.guard }], guard := some (20, false) }) (v := undef) rfl (by kernel_rfl) (by kernel_rfl) (by kernel_rfl) (fun _ _ _ h => h) (Or.inr ⟨by rfl, rfl⟩) hHeld ?nx27x54
    try simp only [Act.put, List.setIfInBounds_toArray, List.set_cons_zero, List.set_cons_succ]
    refine wpAnyH_take (i := 28) (oi := { dst := some 79, op := Op.pick (Operand.tmp 71) (Operand.const (Value.bool true)) (Operand.tmp 78), type := 4, pos := "law.go:40", after := #[{ on := 20, ground := Ground.data }, { on := 27, ground := Ground.data }, { on := 15, ground := Ground.guard }], guard := some (15, true) }) (v := ?v28x55) rfl (by kernel_rfl) (by kernel_rfl) (by kernel_rfl) (fun _ _ _ h => h) (Or.inl ⟨by rfl, ?hy28x55⟩) hHeld ?nx28x55
    case hy28x55 => (intro w hSw; (try dsimp only at hSw); go_simp; try with_reducible rfl)
    try simp only [Act.put, List.setIfInBounds_toArray, List.set_cons_zero, List.set_cons_succ]
    refine wpAnyH_take (i := 29) (oi := { dst := some 80, op := Op.pick (Operand.tmp 66) (Operand.tmp 79) (Operand.const (Value.bool false)), type := 4, pos := "law.go:40", after := #[{ on := 15, ground := Ground.data }, { on := 28, ground := Ground.data }], guard := none }) (v := ?v29x56) rfl (by kernel_rfl) (by kernel_rfl) (by kernel_rfl) (fun _ _ _ h => h) (Or.inl ⟨by rfl, ?hy29x56⟩) hHeld ?nx29x56
    case hy29x56 => (intro w hSw; (try dsimp only at hSw); go_simp; try with_reducible rfl)
    try simp only [Act.put, List.setIfInBounds_toArray, List.set_cons_zero, List.set_cons_succ]
    refine wpAnyH_take (i := 30) (oi := { dst := some 6, op := Op.assign (Operand.tmp 80), type := 4, pos := "law.go:40", after := #[{ on := 29, ground := Ground.data }, { on := 23, ground := Ground.chain }, { on := 0, ground := Ground.phase }, { on := 1, ground := Ground.phase }, { on := 2, ground := Ground.phase }, { on := 3, ground := Ground.phase }, { on := 4, ground := Ground.phase }, { on := 5, ground := Ground.phase }, { on := 6, ground := Ground.phase }, { on := 7, ground := Ground.phase }, { on := 8, ground := Ground.phase }, { on := 9, ground := Ground.phase }, { on := 10, ground := Ground.phase }, { on := 11, ground := Ground.phase }, { on := 12, ground := Ground.phase }, { on := 13, ground := Ground.phase }, { on := 14, ground := Ground.phase }, { on := 15, ground := Ground.phase }, { on := 16, ground := Ground.phase }, { on := 17, ground := Ground.phase }, { on := 18, ground := Ground.phase }, { on := 19, ground := Ground.phase }, { on := 20, ground := Ground.phase }, { on := 21, ground := Ground.phase }, { on := 22, ground := Ground.phase }, { on := 23, ground := Ground.phase }, { on := 24, ground := Ground.phase }, { on := 25, ground := Ground.phase }, { on := 26, ground := Ground.phase }, { on := 27, ground := Ground.phase }, { on := 28, ground := Ground.phase }, { on := 29, ground := Ground.phase }], guard := none }) (v := ?v30x57) rfl (by kernel_rfl) (by kernel_rfl) (by kernel_rfl) (fun _ _ _ h => h) (Or.inl ⟨by rfl, ?hy30x57⟩) hHeld ?nx30x57
    case hy30x57 => (intro w hSw; (try dsimp only at hSw); go_simp; try with_reducible rfl)
    try simp only [Act.put, List.setIfInBounds_toArray, List.set_cons_zero, List.set_cons_succ]
    refine wpAnyH_done (by kernel_rfl) ?_ _
    refine NoPanic.normal ?_
    go_wp2_with fail
    go_ret
    exact ⟨rfl, (HB.out.2.2.1.trans HD.out.1).trans gg15⟩
end Go.Proofs.YtmhnailcmlomiaaDoor
