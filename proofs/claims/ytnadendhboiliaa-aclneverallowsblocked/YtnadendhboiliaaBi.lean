/-
  CONTRACTS of BlockedIndex and Covers of the reference and of Index and Contains of package blocklist, over this seat's translation.
  Conditions: the arguments are addresses and prefixes.
-/
import Derived.Test.YtnadendhboiliaaBr
import Derived.Test.YtnadendhboiliaaMb
import Derived.Deep.RegionHeld3
import Derived.Deep.DeepCutAuto
import Derived.Deep.CutBlock
namespace Go.Proofs.Ytnadendhboiliaa
open Go.ChangeShapes Go.WideShapes Go.ChangeAt Go.RowKit
set_option linter.unusedVariables false

theorem PL_bytes : ∀ p ∈ PL, Bytes p.xs := fun p hp => (PL_ok p hp).1
set_option maxHeartbeats 2000000 in
set_option maxRecDepth 100000 in
theorem bidx_ref (c : Bool) (ys : List Nat) (hy : Bytes ys) (w : World) :
    Calls Try.prog 30 #[.agg (adr c ys).toArray] w fun e w' => e = .returned (.int .i64 (bIdx c ys)) ∧ Fr No w w' := by
  obtain ⟨A, hA, -, hAs, -⟩ := adr_letter c ys hy
  have HAY := Lib.hid (And.intro hA hy)
  rw [hA]
  clear hA hy
  go_enter Try.func30, Try.ntmps30
  have t3 := Try.underlying3
  have u3 := Try.runUnderlying3
  have g3 := Try.isAgg3
  have z3 := Try.sizeOf3
  have t4 := Try.underlying4
  have u4 := Try.runUnderlying4
  have g4 := Try.isAgg4
  have z4 := Try.sizeOf4
  have t26 := Try.underlying26
  have u26 := Try.runUnderlying26
  have g26 := Try.isAgg26
  have z26 := Try.sizeOf26
  have t80 := Try.underlying80
  have u80 := Try.runUnderlying80
  have g80 := Try.isAgg80
  have z80 := Try.sizeOf80
  have t28 := Try.underlying28
  have u28 := Try.runUnderlying28
  have g28 := Try.isAgg28
  have z28 := Try.sizeOf28
  have c55 := Try.call55
  have c47 := Try.call47
  have mixed : Try.prog.follows .mixedOrders = true := by kernel_rfl
  obtain ⟨k30, hk30⟩ : ∃ k, k = 17 := ⟨_, rfl⟩
  rw [← hk30] at z26
  have nk30 : ¬ k30 = 0 := by omega
  have HK26 := Lib.hid hk30
  obtain ⟨k40, hk40⟩ : ∃ k, k = 18 := ⟨_, rfl⟩
  rw [← hk40] at z28
  have nk40 : ¬ k40 = 0 := by omega
  have HK28 := Lib.hid hk40
  have hP : Try.prog = PD := rfl
  rw [hP] at t3 u3 g3 z3 t4 u4 g4 z4 t26 u26 g26 z26 t80 u80 g80 z80 t28 u28 g28 z28 c55 c47 mixed ⊢
  have HP := Lib.hid hP.symm
  clear hP hk30 hk40
  have hAk : A.size = k30 := by rw [HK26.out]; exact hAs
  clear hAs
  obtain ⟨b1, hb1⟩ : ∃ b, w.heap.size = b := ⟨_, rfl⟩
  obtain ⟨w1, hw1⟩ : ∃ w1, w.alloc (.cells A 26) = w1 := ⟨_, rfl⟩
  have H1 : Hid (Fr No w w1 ∧ w1.heap[b1]? = some (.cells A 26 (0, 0))) := ⟨by rw [← hw1]; exact Fr.alloc No w _, by rw [← hw1, ← hb1]; exact heap_alloc_new w _⟩
  go_upto_region 2 with (first | (go_at_call 55; ((with_reducible refine (at_prog HP.out (blocked_any _)).mono ?_); rintro e w2 ⟨ad, cp, rfl, ho2, hf2⟩)) | fail)
  have H2 : Hid (RowP w2 ad PL ∧ Fr No w1 w2) := ⟨(RowP.own PL_bytes ho2).1, hf2⟩
  clear ho2 hf2 hw1 hb1
  go_wp2_with fail
  go_loopg [4] 17 (fun g s wr => ∃ (i : Nat), s = .int .i64 i ∧ i ≤ 15 ∧ 15 - i < g ∧ Hid (Fr No w2 wr ∧ ∀ (j : Nat) (q : Px), j < i → PL[j]? = some q → has q c ys = false))
  case atStart => exact ⟨0, by go_num, by omega, by omega, Fr.refl _ _, fun j q hj => by omega⟩
  case round =>
    obtain ⟨i, rfl, hi15, hig, HO⟩ := hrel
    by_cases hi : i < 15
    · obtain ⟨t, p, -, gp, -, -, -, hok⟩ := bl_at hi
      obtain ⟨ba, oa, rfl, lp⟩ := H2.out.1.load gp
      obtain ⟨P, hP⟩ : ∃ P, (pfx p.b p.xs p.n).toArray = P := ⟨_, rfl⟩
      have HCR : Hid (∀ w', Calls Try.prog 47 #[.agg P, .agg A] w' fun e w'' => e = .returned (.bool (has p c ys)) ∧ Fr No w' w'') := fun w' => by
        rw [← hP, ← HAY.out.1]
        exact cont_ref p.b c p.xs ys p.n hok.1 HAY.out.2 w'
      have HS : Hid (∀ w', Fr No w2 w' → Fr No w2 w' ∧ Sem.run PD (loadCellsFrom ⟨ba, oa + i * k40, none⟩ 0 k40 #[]) w' = .ok P w' ∧ Sem.run PD (loadCellsFrom ⟨b1, 0, none⟩ 0 k30 #[]) w' = .ok A w') := fun w' h => ⟨h, by rw [HK28.out, ← hP]; exact lp PD w' h, load_block ((H2.out.2.trans h).keep H1.out.2) hAk (fun j v hv => by simpa using hv)⟩
      have f1 := HS.out _ (HO.out.1.trans (Fr.drew No wr))
      have p1 : (0 : Int) ≤ (i : Int) := by omega
      have p2 : (i : Int) < 15 := by omega
      have HG := Lib.hid gp
      clear gp lp hP hok
      go_wp2_with fail
      cases hh : has p c ys
      · rw [hh] at HCR
        go_region_held3 (fun w' => Fr No w2 w' ∧ Sem.run PD (loadCellsFrom ⟨ba, oa + i * k40, none⟩ 0 k40 #[]) w' = .ok P w' ∧ Sem.run PD (loadCellsFrom ⟨b1, 0, none⟩ 0 k30 #[]) w' = .ok A w') (first | assumption | (with_reducible exact HS.out _ K3)) (first | (go_at_call 47; ((with_reducible refine (at_prog HP.out (HCR.out _)).mono ?_); rintro e w3 ⟨rfl, hf3⟩; have K3 : Fr No w2 w3 := Fr.trans (And.left (by assumption)) hf3)))
        go_wp2_with fail
        go_roundg (15 - i)
        case measure => exact hig
        case rel =>
          refine ⟨i + 1, by go_num, by omega, by omega, K3, fun j q hj hq => ?_⟩
          by_cases hji : j = i
          · subst hji; rw [HG.out] at hq; cases hq; exact hh
          · exact HO.out.2 j q (by omega) hq
      · rw [hh] at HCR
        go_region_held3 (fun w' => Fr No w2 w' ∧ Sem.run PD (loadCellsFrom ⟨ba, oa + i * k40, none⟩ 0 k40 #[]) w' = .ok P w' ∧ Sem.run PD (loadCellsFrom ⟨b1, 0, none⟩ 0 k30 #[]) w' = .ok A w') (first | assumption | (with_reducible exact HS.out _ K3)) (first | (go_at_call 47; ((with_reducible refine (at_prog HP.out (HCR.out _)).mono ?_); rintro e w3 ⟨rfl, hf3⟩; have K3 : Fr No w2 w3 := Fr.trans (And.left (by assumption)) hf3)))
        go_wp2_with fail
        go_ret
        exact ⟨by rw [bIdx_some HG.out hh HO.out.2]; rfl, (H1.out.1.trans H2.out.2).trans K3⟩
    · obtain rfl : i = 15 := by omega
      go_wp2_with fail
      go_ret
      exact ⟨by rw [bIdx_none fun j q hq => HO.out.2 j q (List.getElem?_eq_some_iff.1 hq).1 hq]; rfl, (H1.out.1.trans H2.out.2).trans HO.out.1⟩

set_option maxHeartbeats 1000000 in
set_option maxRecDepth 100000 in
theorem idx1_any (p : Px) (c : Bool) (ys : List Nat) (hp : Bytes p.xs) (hy : Bytes ys) (bx : Nat) (w : World) (hb : w.heap[bx]? = some (.cells (adr c ys).toArray 26 (0, 0))) :
    Calls Try.prog 84 #[.agg (pfx p.b p.xs p.n).toArray, .pointer (some ⟨bx, 0, none⟩)] w fun e w' => e = .returned (.bool (has p c ys)) ∧ Fr No w w' := by
  obtain ⟨A, hA, -, hAs, -⟩ := adr_letter c ys hy
  obtain ⟨P, hP, -, -, hPs, -, -⟩ := pfx_letter p.b p.xs p.n hp
  have HC : Hid (∀ w', Calls Try.prog 56 #[.agg P, .agg A] w' fun e w'' => e = .returned (.bool (has p c ys)) ∧ Fr No w' w'') := fun w' => by
    rw [← hP, ← hA]
    exact cont_any p.b c p.xs ys p.n hp hy w'
  rw [hA] at hb
  rw [hP]
  clear hA hP
  go_enter Try.func84, Try.ntmps84
  have t3 := Try.underlying3
  have u3 := Try.runUnderlying3
  have g3 := Try.isAgg3
  have z3 := Try.sizeOf3
  have t4 := Try.underlying4
  have u4 := Try.runUnderlying4
  have g4 := Try.isAgg4
  have z4 := Try.sizeOf4
  have t26 := Try.underlying26
  have u26 := Try.runUnderlying26
  have g26 := Try.isAgg26
  have z26 := Try.sizeOf26
  have t28 := Try.underlying28
  have u28 := Try.runUnderlying28
  have g28 := Try.isAgg28
  have z28 := Try.sizeOf28
  have c56 := Try.call56
  have mixed : Try.prog.follows .mixedOrders = true := by kernel_rfl
  obtain ⟨k30, hk30⟩ : ∃ k, k = 17 := ⟨_, rfl⟩
  rw [← hk30] at z26
  have nk30 : ¬ k30 = 0 := by omega
  have HK26 := Lib.hid hk30
  obtain ⟨k40, hk40⟩ : ∃ k, k = 18 := ⟨_, rfl⟩
  rw [← hk40] at z28
  have nk40 : ¬ k40 = 0 := by omega
  have HK28 := Lib.hid hk40
  have hP : Try.prog = PD := rfl
  rw [hP] at t3 u3 g3 z3 t4 u4 g4 z4 t26 u26 g26 z26 t28 u28 g28 z28 c56 mixed ⊢
  have HP := Lib.hid hP.symm
  clear hP hk30 hk40
  have hAk : A.size = k30 := by rw [HK26.out]; exact hAs
  have hPk : P.size = k40 := by rw [HK28.out]; exact hPs
  clear hAs hPs
  have F1 : Fr No w (w.alloc (.cells P 28)) := Fr.alloc No w _
  have l1 : Sem.run PD (loadCellsFrom ⟨w.heap.size, 0, none⟩ 0 k40 #[]) (w.alloc (.cells P 28)) = .ok P (w.alloc (.cells P 28)) := load_block (heap_alloc_new w _) hPk (fun j v hv => by simpa using hv)
  have l2 : Sem.run PD (loadCellsFrom ⟨bx, 0, none⟩ 0 k30 #[]) (w.alloc (.cells P 28)) = .ok A (w.alloc (.cells P 28)) := load_block (F1.keep hb) hAk (fun j v hv => by simpa using hv)
  go_wp2_with (first | (go_at_call 56; ((with_reducible refine (at_prog HP.out (HC.out _)).mono ?_); rintro e w3 ⟨rfl, hf3⟩)) | fail)
  go_ret
  exact ⟨rfl, F1.trans hf3⟩

set_option maxHeartbeats 2000000 in
set_option maxRecDepth 100000 in
theorem idxf_any (c : Bool) (ys : List Nat) (hy : Bytes ys) (bx : Nat) (ad : Option Addr) (cp : Nat) (w : World) (hr : RowP w ad PL) (hb : w.heap[bx]? = some (.cells (adr c ys).toArray 26 (0, 0))) :
    Calls Try.prog 82 #[.slice ad 15 cp, .func (.func 84) #[] #[.pointer (some ⟨bx, 0, none⟩)]] w fun e w' => e = .returned (.int .i64 (bIdx c ys)) ∧ Fr No w w' := by
  have H2 := Lib.hid (And.intro hr (And.intro hb hy))
  clear hr hb hy
  go_enter Try.func82, Try.ntmps82
  have t3 := Try.underlying3
  have u3 := Try.runUnderlying3
  have g3 := Try.isAgg3
  have z3 := Try.sizeOf3
  have t4 := Try.underlying4
  have u4 := Try.runUnderlying4
  have g4 := Try.isAgg4
  have z4 := Try.sizeOf4
  have t26 := Try.underlying26
  have u26 := Try.runUnderlying26
  have g26 := Try.isAgg26
  have z26 := Try.sizeOf26
  have t80 := Try.underlying80
  have u80 := Try.runUnderlying80
  have g80 := Try.isAgg80
  have z80 := Try.sizeOf80
  have t28 := Try.underlying28
  have u28 := Try.runUnderlying28
  have g28 := Try.isAgg28
  have z28 := Try.sizeOf28
  have t63 := Try.underlying63
  have u63 := Try.runUnderlying63
  have g63 := Try.isAgg63
  have z63 := Try.sizeOf63
  have c84 := Try.call84
  have mixed : Try.prog.follows .mixedOrders = true := by kernel_rfl
  obtain ⟨k30, hk30⟩ : ∃ k, k = 17 := ⟨_, rfl⟩
  rw [← hk30] at z26
  have nk30 : ¬ k30 = 0 := by omega
  have HK26 := Lib.hid hk30
  obtain ⟨k40, hk40⟩ : ∃ k, k = 18 := ⟨_, rfl⟩
  rw [← hk40] at z28
  have nk40 : ¬ k40 = 0 := by omega
  have HK28 := Lib.hid hk40
  have hP : Try.prog = PD := rfl
  rw [hP] at t3 u3 g3 z3 t4 u4 g4 z4 t26 u26 g26 z26 t80 u80 g80 z80 t28 u28 g28 z28 t63 u63 g63 z63 c84 mixed ⊢
  have HP := Lib.hid hP.symm
  clear hP hk30 hk40
  go_wp2_with fail
  go_loopg [8] 17 (fun g s wr => ∃ (i : Nat), s = .int .i64 i ∧ i ≤ 15 ∧ 15 - i < g ∧ Hid (Fr No w wr ∧ ∀ (j : Nat) (q : Px), j < i → PL[j]? = some q → has q c ys = false))
  case atStart => exact ⟨0, by go_num, by omega, by omega, Fr.refl _ _, fun j q hj => by omega⟩
  case round =>
    obtain ⟨i, rfl, hi15, hig, HO⟩ := hrel
    by_cases hi : i < 15
    · obtain ⟨t, p, -, gp, -, -, -, hok⟩ := bl_at hi
      obtain ⟨ba, oa, rfl, lp⟩ := H2.out.1.load gp
      obtain ⟨P, hP⟩ : ∃ P, (pfx p.b p.xs p.n).toArray = P := ⟨_, rfl⟩
      have HCR : Hid (∀ w', Fr No w w' → Calls Try.prog 84 #[.agg P, .pointer (some ⟨bx, 0, none⟩)] w' fun e w'' => e = .returned (.bool (has p c ys)) ∧ Fr No w' w'') := fun w' h => by
        rw [← hP]
        exact idx1_any p c ys hok.1 H2.out.2.2 bx w' (h.keep H2.out.2.1)
      have l1 : Sem.run PD (loadCellsFrom ⟨ba, oa + i * k40, none⟩ 0 k40 #[]) wr = .ok P wr := by rw [HK28.out, ← hP]; exact lp PD wr HO.out.1
      have p1 : (0 : Int) ≤ (i : Int) := by omega
      have p2 : (i : Int) < 15 := by omega
      have HG := Lib.hid gp
      clear gp lp hP hok
      cases hh : has p c ys
      · rw [hh] at HCR
        go_wp2_with (first | (go_at_call 84; ((with_reducible refine (at_prog HP.out (HCR.out _ HO.out.1)).mono ?_); rintro e w3 ⟨rfl, hf3⟩)) | fail)
        go_roundg (15 - i)
        case measure => exact hig
        case rel =>
          refine ⟨i + 1, by go_num, by omega, by omega, HO.out.1.trans hf3, fun j q hj hq => ?_⟩
          by_cases hji : j = i
          · subst hji; rw [HG.out] at hq; cases hq; exact hh
          · exact HO.out.2 j q (by omega) hq
      · rw [hh] at HCR
        go_wp2_with (first | (go_at_call 84; ((with_reducible refine (at_prog HP.out (HCR.out _ HO.out.1)).mono ?_); rintro e w3 ⟨rfl, hf3⟩)) | fail)
        go_ret
        exact ⟨by rw [bIdx_some HG.out hh HO.out.2]; rfl, HO.out.1.trans hf3⟩
    · obtain rfl : i = 15 := by omega
      go_wp2_with fail
      go_ret
      exact ⟨by rw [bIdx_none fun j q hq => HO.out.2 j q (List.getElem?_eq_some_iff.1 hq).1 hq]; rfl, HO.out.1⟩

/-- A row that lies in one block. -/
theorem rowP_block {w : World} {g : Nat} (h : w.heap[g]? = some (.cells (flatP PL).toArray 28 (0, 0))) : RowP w (some ⟨g, 0, none⟩) PL :=
  ⟨PL_bytes, fun _ => ⟨g, 0, _, 28, (0, 0), rfl, h, fun j v hj => by rw [Nat.zero_add, List.getElem?_toArray]; exact hj⟩⟩
set_option maxHeartbeats 1000000 in
set_option maxRecDepth 100000 in
theorem index_any (c : Bool) (ys : List Nat) (hy : Bytes ys) (w : World) :
    Calls Try.prog 70 #[.agg (adr c ys).toArray] w fun e w' => e = .returned (.int .i64 (bIdx c ys)) ∧ Fr No w w' := by
  obtain ⟨A, hA, -, hAs, -⟩ := adr_letter c ys hy
  have HIF : Hid (∀ (w' : World) (bx g : Nat), w'.heap[g]? = some (.cells (flatP PL).toArray 28 (0, 0)) → w'.heap[bx]? = some (.cells A 26 (0, 0)) → Calls Try.prog 82 #[.slice (some ⟨g, 0, none⟩) 15 15, .func (.func 84) #[] #[.pointer (some ⟨bx, 0, none⟩)]] w' fun e w'' => e = .returned (.int .i64 (bIdx c ys)) ∧ Fr No w' w'') := fun w' bx g h1 h2 =>
    idxf_any c ys hy bx _ 15 w' (rowP_block h1) (by rw [hA]; exact h2)
  rw [hA]
  clear hA hy
  go_enter Try.func70, Try.ntmps70
  have t3 := Try.underlying3
  have u3 := Try.runUnderlying3
  have g3 := Try.isAgg3
  have z3 := Try.sizeOf3
  have t4 := Try.underlying4
  have u4 := Try.runUnderlying4
  have g4 := Try.isAgg4
  have z4 := Try.sizeOf4
  have t26 := Try.underlying26
  have u26 := Try.runUnderlying26
  have g26 := Try.isAgg26
  have z26 := Try.sizeOf26
  have t80 := Try.underlying80
  have u80 := Try.runUnderlying80
  have g80 := Try.isAgg80
  have z80 := Try.sizeOf80
  have t28 := Try.underlying28
  have u28 := Try.runUnderlying28
  have g28 := Try.isAgg28
  have z28 := Try.sizeOf28
  have t63 := Try.underlying63
  have u63 := Try.runUnderlying63
  have g63 := Try.isAgg63
  have z63 := Try.sizeOf63
  have c83 := Try.call83
  have c82 := Try.call82
  have mixed : Try.prog.follows .mixedOrders = true := by kernel_rfl
  obtain ⟨k30, hk30⟩ : ∃ k, k = 17 := ⟨_, rfl⟩
  rw [← hk30] at z26
  have nk30 : ¬ k30 = 0 := by omega
  have HK26 := Lib.hid hk30
  obtain ⟨k40, hk40⟩ : ∃ k, k = 18 := ⟨_, rfl⟩
  rw [← hk40] at z28
  have nk40 : ¬ k40 = 0 := by omega
  have HK28 := Lib.hid hk40
  have hP : Try.prog = PD := rfl
  rw [hP] at t3 u3 g3 z3 t4 u4 g4 z4 t26 u26 g26 z26 t80 u80 g80 z80 t28 u28 g28 z28 t63 u63 g63 z63 c83 c82 mixed ⊢
  have HP := Lib.hid hP.symm
  clear hP hk30 hk40
  have hAk : A.size = k30 := by rw [HK26.out]; exact hAs
  clear hAs
  have F1 : Fr No w (w.alloc (.cells A 26)) := Fr.alloc No w _
  go_wp2_with (first | (go_at_call 83; ((with_reducible refine (at_prog HP.out (prefixes_any _)).mono ?_); rintro e w2 ⟨g, rfl, -, hg2, hf2⟩)) | (go_at_call 82; ((with_reducible refine (at_prog HP.out (HIF.out _ _ _ hg2 (hf2.keep (heap_alloc_new w _)))).mono ?_); rintro e w3 ⟨rfl, hf3⟩)) | fail)
  go_ret
  exact ⟨rfl, (F1.trans hf2).trans hf3⟩

set_option maxHeartbeats 1000000 in
set_option maxRecDepth 100000 in
theorem contains_any (c : Bool) (ys : List Nat) (hy : Bytes ys) (w : World) :
    Calls Try.prog 48 #[.agg (adr c ys).toArray] w fun e w' => e = .returned (.bool (!validA c ys || decide (0 ≤ bIdx c ys))) ∧ Fr No w w' := by
  obtain ⟨A, hA, -, hAs, -⟩ := adr_letter c ys hy
  have HV : Hid (∀ w', Calls Try.prog 69 #[.agg A] w' fun e w'' => e = .returned (.bool (validA c ys)) ∧ Fr No w' w'') := fun w' => by rw [← hA]; exact valid_any c ys hy w'
  have HI : Hid (∀ w', Calls Try.prog 70 #[.agg A] w' fun e w'' => e = .returned (.int .i64 (bIdx c ys)) ∧ Fr No w' w'') := fun w' => by rw [← hA]; exact index_any c ys hy w'
  rw [hA]
  clear hA hy
  go_enter Try.func48, Try.ntmps48
  have t3 := Try.underlying3
  have u3 := Try.runUnderlying3
  have g3 := Try.isAgg3
  have z3 := Try.sizeOf3
  have t4 := Try.underlying4
  have u4 := Try.runUnderlying4
  have g4 := Try.isAgg4
  have z4 := Try.sizeOf4
  have t26 := Try.underlying26
  have u26 := Try.runUnderlying26
  have g26 := Try.isAgg26
  have z26 := Try.sizeOf26
  have c70 := Try.call70
  have c69 := Try.call69
  have mixed : Try.prog.follows .mixedOrders = true := by kernel_rfl
  obtain ⟨k30, hk30⟩ : ∃ k, k = 17 := ⟨_, rfl⟩
  rw [← hk30] at z26
  have nk30 : ¬ k30 = 0 := by omega
  have HK26 := Lib.hid hk30
  have hP : Try.prog = PD := rfl
  rw [hP] at t3 u3 g3 z3 t4 u4 g4 z4 t26 u26 g26 z26 c70 c69 mixed ⊢
  have HP := Lib.hid hP.symm
  clear hP hk30
  have hAk : A.size = k30 := by rw [HK26.out]; exact hAs
  clear hAs
  have F1 : Fr No w (w.alloc (.cells A 26)) := Fr.alloc No w _
  have l1 : Sem.run PD (loadCellsFrom ⟨w.heap.size, 0, none⟩ 0 k30 #[]) (w.alloc (.cells A 26)) = .ok A (w.alloc (.cells A 26)) := load_block (heap_alloc_new w _) hAk (fun j v hv => by simpa using hv)
  cases hv : validA c ys
  · rw [hv] at HV
    go_wp2_with (first | (go_at_call 69; ((with_reducible refine (at_prog HP.out (HV.out _)).mono ?_); rintro e w2 ⟨rfl, hf2⟩)) | fail)
    go_ret
    exact ⟨rfl, F1.trans hf2⟩
  · rw [hv] at HV
    rcases bIdx_two c ys with hb | ⟨i, -, hb⟩
    all_goals (
      rw [hb] at HI
      have hi : (0 : Int) ≤ ((bIdx c ys).toNat : Int) := by omega
      go_wp2_with (first | (go_at_call 69; ((with_reducible refine (at_prog HP.out (HV.out _)).mono ?_); rintro e w2 ⟨rfl, hf2⟩; have l2 : Sem.run PD (loadCellsFrom ⟨w.heap.size, 0, none⟩ 0 k30 #[]) w2 = .ok A w2 := load_block (hf2.keep (heap_alloc_new w _)) hAk (fun j v hv => by simpa using hv))) | (go_at_call 70; ((with_reducible refine (at_prog HP.out (HI.out _)).mono ?_); rintro e w3 ⟨rfl, hf3⟩)) | fail)
      go_ret
      exact ⟨by simp [hb], (F1.trans hf2).trans hf3⟩)

end Go.Proofs.Ytnadendhboiliaa
