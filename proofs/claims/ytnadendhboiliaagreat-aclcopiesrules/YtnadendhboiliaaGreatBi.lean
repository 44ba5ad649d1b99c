/-
  CONTRACTS of BlockedIndex and Covers of the reference and of Index and Contains of package blocklist, over this seat's translation.
  Conditions: the arguments are addresses and prefixes.
-/
import Derived.Test.YtnadendhboiliaaGreatBr
import Derived.Test.YtnadendhboiliaaGreatMb
import Derived.Deep.RegionHeld3
import Derived.Deep.DeepCutAuto
import Derived.Deep.CutBlock
namespace Go.Proofs.YtnadendhboiliaaGreat
open Go.ChangeShapes Go.WideShapes Go.ChangeAt Go.RowKit
set_option linter.unusedVariables false

theorem PL_bytes : ∀ p ∈ PL, Bytes p.xs := fun p hp => (PL_ok p hp).1
set_option maxHeartbeats 2000000 in
set_option maxRecDepth 100000 in
theorem bidx_ref (c : Bool) (ys : List Nat) (hy : Bytes ys) (w : World) :
    Calls Tryz.prog 33 #[.agg (adr c ys).toArray] w fun e w' => e = .returned (.int .i64 (bIdx c ys)) ∧ Fr No w w' := by
  obtain ⟨A, hA, -, hAs, -⟩ := adr_letter c ys hy
  have HAY := Lib.hid (And.intro hA hy)
  rw [hA]
  clear hA hy
  go_enter Tryz.func33, Tryz.ntmps33
  have t3 := Tryz.underlying3
  have u3 := Tryz.runUnderlying3
  have g3 := Tryz.isAgg3
  have z3 := Tryz.sizeOf3
  have t4 := Tryz.underlying4
  have u4 := Tryz.runUnderlying4
  have g4 := Tryz.isAgg4
  have z4 := Tryz.sizeOf4
  have t25 := Tryz.underlying25
  have u25 := Tryz.runUnderlying25
  have g25 := Tryz.isAgg25
  have z25 := Tryz.sizeOf25
  have t89 := Tryz.underlying89
  have u89 := Tryz.runUnderlying89
  have g89 := Tryz.isAgg89
  have z89 := Tryz.sizeOf89
  have t29 := Tryz.underlying29
  have u29 := Tryz.runUnderlying29
  have g29 := Tryz.isAgg29
  have z29 := Tryz.sizeOf29
  have c56 := Tryz.call56
  have c55 := Tryz.call55
  have mixed : Tryz.prog.follows .mixedOrders = true := by kernel_rfl
  obtain ⟨k30, hk30⟩ : ∃ k, k = 17 := ⟨_, rfl⟩
  rw [← hk30] at z25
  have nk30 : ¬ k30 = 0 := by omega
  have HK25 := Lib.hid hk30
  obtain ⟨k40, hk40⟩ : ∃ k, k = 18 := ⟨_, rfl⟩
  rw [← hk40] at z29
  have nk40 : ¬ k40 = 0 := by omega
  have HK29 := Lib.hid hk40
  have hP : Tryz.prog = PD := rfl
  rw [hP] at t3 u3 g3 z3 t4 u4 g4 z4 t25 u25 g25 z25 t89 u89 g89 z89 t29 u29 g29 z29 c56 c55 mixed ⊢
  have HP := Lib.hid hP.symm
  clear hP hk30 hk40
  have hAk : A.size = k30 := by rw [HK25.out]; exact hAs
  clear hAs
  obtain ⟨b1, hb1⟩ : ∃ b, w.heap.size = b := ⟨_, rfl⟩
  obtain ⟨w1, hw1⟩ : ∃ w1, w.alloc (.cells A 25) = w1 := ⟨_, rfl⟩
  have H1 : Hid (Fr No w w1 ∧ w1.heap[b1]? = some (.cells A 25 (0, 0))) := ⟨by rw [← hw1]; exact Fr.alloc No w _, by rw [← hw1, ← hb1]; exact heap_alloc_new w _⟩
  go_upto_region 2 with (first | (go_at_call 56; ((with_reducible refine (at_prog HP.out (blocked_any _)).mono ?_); rintro e w2 ⟨ad, cp, rfl, ho2, hf2⟩)) | fail)
  have H2 : Hid (RowP w2 ad PL ∧ Fr No w1 w2) := ⟨(RowP.own PL_bytes ho2).1, hf2⟩
  clear ho2 hf2 hw1 hb1
  go_wp2_with fail
  go_loopg [4] 17 (fun g s wr => ∃ (i : Nat), s = .int .i64 i ∧ i ≤ 15 ∧ 15 - i < g ∧ Hid (Fr No w2 wr ∧ ∀ (j : Nat) (q : Px), j < i → PL[j]? = some q → has q c ys = false))
  case atStart => exact ⟨0, by go_num, by omega, by omega, Fr.refl _ _, fun j q hj => by omega⟩
  case round =>
    obtain ⟨i, rfl, hi15, hig, HO⟩ := hrel
    by_cases hi : i < 15
    · obtain ⟨t, p, -, gp, -, -, -, hok⟩ := bl_at hi
      obtain ⟨ba, oa, rfl, lp⟩ := H2.out.1.load gp
      obtain ⟨P, hP⟩ : ∃ P, (pfx p.b p.xs p.n).toArray = P := ⟨_, rfl⟩
      have HCR : Hid (∀ w', Calls Tryz.prog 55 #[.agg P, .agg A] w' fun e w'' => e = .returned (.bool (has p c ys)) ∧ Fr No w' w'') := fun w' => by
        rw [← hP, ← HAY.out.1]
        exact cont_ref p.b c p.xs ys p.n hok.1 HAY.out.2 w'
      have HS : Hid (∀ w', Fr No w2 w' → Fr No w2 w' ∧ Sem.run PD (loadCellsFrom ⟨ba, oa + i * k40, none⟩ 0 k40 #[]) w' = .ok P w' ∧ Sem.run PD (loadCellsFrom ⟨b1, 0, none⟩ 0 k30 #[]) w' = .ok A w') := fun w' h => ⟨h, by rw [HK29.out, ← hP]; exact lp PD w' h, load_block ((H2.out.2.trans h).keep H1.out.2) hAk (fun j v hv => by simpa using hv)⟩
      have f1 := HS.out _ (HO.out.1.trans (Fr.drew No wr))
      have p1 : (0 : Int) ≤ (i : Int) := by omega
      have p2 : (i : Int) < 15 := by omega
      have HG := Lib.hid gp
      clear gp lp hP hok
      go_wp2_with fail
      cases hh : has p c ys
      · rw [hh] at HCR
        go_region_held3 (fun w' => Fr No w2 w' ∧ Sem.run PD (loadCellsFrom ⟨ba, oa + i * k40, none⟩ 0 k40 #[]) w' = .ok P w' ∧ Sem.run PD (loadCellsFrom ⟨b1, 0, none⟩ 0 k30 #[]) w' = .ok A w') (first | assumption | (with_reducible exact HS.out _ K3)) (first | (go_at_call 55; ((with_reducible refine (at_prog HP.out (HCR.out _)).mono ?_); rintro e w3 ⟨rfl, hf3⟩; have K3 : Fr No w2 w3 := Fr.trans (And.left (by assumption)) hf3)))
        go_wp2_with fail
        go_roundg (15 - i)
        case measure => exact hig
        case rel =>
          refine ⟨i + 1, by go_num, by omega, by omega, K3, fun j q hj hq => ?_⟩
          by_cases hji : j = i
          · subst hji; rw [HG.out] at hq; cases hq; exact hh
          · exact HO.out.2 j q (by omega) hq
      · rw [hh] at HCR
        go_region_held3 (fun w' => Fr No w2 w' ∧ Sem.run PD (loadCellsFrom ⟨ba, oa + i * k40, none⟩ 0 k40 #[]) w' = .ok P w' ∧ Sem.run PD (loadCellsFrom ⟨b1, 0, none⟩ 0 k30 #[]) w' = .ok A w') (first | assumption | (with_reducible exact HS.out _ K3)) (first | (go_at_call 55; ((with_reducible refine (at_prog HP.out (HCR.out _)).mono ?_); rintro e w3 ⟨rfl, hf3⟩; have K3 : Fr No w2 w3 := Fr.trans (And.left (by assumption)) hf3)))
        go_wp2_with fail
        go_ret
        exact ⟨by rw [bIdx_some HG.out hh HO.out.2]; rfl, (H1.out.1.trans H2.out.2).trans K3⟩
    · obtain rfl : i = 15 := by omega
      go_wp2_with fail
      go_ret
      exact ⟨by rw [bIdx_none fun j q hq => HO.out.2 j q (List.getElem?_eq_some_iff.1 hq).1 hq]; rfl, (H1.out.1.trans H2.out.2).trans HO.out.1⟩

set_option maxHeartbeats 1000000 in
set_option maxRecDepth 100000 in
theorem idx1_any (p : Px) (c : Bool) (ys : List Nat) (hp : Bytes p.xs) (hy : Bytes ys) (bx : Nat) (w : World) (hb : w.heap[bx]? = some (.cells (adr c ys).toArray 25 (0, 0))) :
    Calls Tryz.prog 78 #[.agg (pfx p.b p.xs p.n).toArray, .pointer (some ⟨bx, 0, none⟩)] w fun e w' => e = .returned (.bool (has p c ys)) ∧ Fr No w w' := by
  obtain ⟨A, hA, -, hAs, -⟩ := adr_letter c ys hy
  obtain ⟨P, hP, -, -, hPs, -, -⟩ := pfx_letter p.b p.xs p.n hp
  have HC : Hid (∀ w', Calls Tryz.prog 61 #[.agg P, .agg A] w' fun e w'' => e = .returned (.bool (has p c ys)) ∧ Fr No w' w'') := fun w' => by
    rw [← hP, ← hA]
    exact cont_any p.b c p.xs ys p.n hp hy w'
  rw [hA] at hb
  rw [hP]
  clear hA hP
  go_enter Tryz.func78, Tryz.ntmps78
  have t3 := Tryz.underlying3
  have u3 := Tryz.runUnderlying3
  have g3 := Tryz.isAgg3
  have z3 := Tryz.sizeOf3
  have t4 := Tryz.underlying4
  have u4 := Tryz.runUnderlying4
  have g4 := Tryz.isAgg4
  have z4 := Tryz.sizeOf4
  have t25 := Tryz.underlying25
  have u25 := Tryz.runUnderlying25
  have g25 := Tryz.isAgg25
  have z25 := Tryz.sizeOf25
  have t29 := Tryz.underlying29
  have u29 := Tryz.runUnderlying29
  have g29 := Tryz.isAgg29
  have z29 := Tryz.sizeOf29
  have c61 := Tryz.call61
  have mixed : Tryz.prog.follows .mixedOrders = true := by kernel_rfl
  obtain ⟨k30, hk30⟩ : ∃ k, k = 17 := ⟨_, rfl⟩
  rw [← hk30] at z25
  have nk30 : ¬ k30 = 0 := by omega
  have HK25 := Lib.hid hk30
  obtain ⟨k40, hk40⟩ : ∃ k, k = 18 := ⟨_, rfl⟩
  rw [← hk40] at z29
  have nk40 : ¬ k40 = 0 := by omega
  have HK29 := Lib.hid hk40
  have hP : Tryz.prog = PD := rfl
  rw [hP] at t3 u3 g3 z3 t4 u4 g4 z4 t25 u25 g25 z25 t29 u29 g29 z29 c61 mixed ⊢
  have HP := Lib.hid hP.symm
  clear hP hk30 hk40
  have hAk : A.size = k30 := by rw [HK25.out]; exact hAs
  have hPk : P.size = k40 := by rw [HK29.out]; exact hPs
  clear hAs hPs
  have F1 : Fr No w (w.alloc (.cells P 29)) := Fr.alloc No w _
  have l1 : Sem.run PD (loadCellsFrom ⟨w.heap.size, 0, none⟩ 0 k40 #[]) (w.alloc (.cells P 29)) = .ok P (w.alloc (.cells P 29)) := load_block (heap_alloc_new w _) hPk (fun j v hv => by simpa using hv)
  have l2 : Sem.run PD (loadCellsFrom ⟨bx, 0, none⟩ 0 k30 #[]) (w.alloc (.cells P 29)) = .ok A (w.alloc (.cells P 29)) := load_block (F1.keep hb) hAk (fun j v hv => by simpa using hv)
  go_wp2_with (first | (go_at_call 61; ((with_reducible refine (at_prog HP.out (HC.out _)).mono ?_); rintro e w3 ⟨rfl, hf3⟩)) | fail)
  go_ret
  exact ⟨rfl, F1.trans hf3⟩

set_option maxHeartbeats 2000000 in
set_option maxRecDepth 100000 in
theorem idxf_any (c : Bool) (ys : List Nat) (hy : Bytes ys) (bx : Nat) (ad : Option Addr) (cp : Nat) (w : World) (hr : RowP w ad PL) (hb : w.heap[bx]? = some (.cells (adr c ys).toArray 25 (0, 0))) :
    Calls Tryz.prog 76 #[.slice ad 15 cp, .func (.func 78) #[] #[.pointer (some ⟨bx, 0, none⟩)]] w fun e w' => e = .returned (.int .i64 (bIdx c ys)) ∧ Fr No w w' := by
  have H2 := Lib.hid (And.intro hr (And.intro hb hy))
  clear hr hb hy
  go_enter Tryz.func76, Tryz.ntmps76
  have t3 := Tryz.underlying3
  have u3 := Tryz.runUnderlying3
  have g3 := Tryz.isAgg3
  have z3 := Tryz.sizeOf3
  have t4 := Tryz.underlying4
  have u4 := Tryz.runUnderlying4
  have g4 := Tryz.isAgg4
  have z4 := Tryz.sizeOf4
  have t25 := Tryz.underlying25
  have u25 := Tryz.runUnderlying25
  have g25 := Tryz.isAgg25
  have z25 := Tryz.sizeOf25
  have t89 := Tryz.underlying89
  have u89 := Tryz.runUnderlying89
  have g89 := Tryz.isAgg89
  have z89 := Tryz.sizeOf89
  have t29 := Tryz.underlying29
  have u29 := Tryz.runUnderlying29
  have g29 := Tryz.isAgg29
  have z29 := Tryz.sizeOf29
  have t76 := Tryz.underlying76
  have u76 := Tryz.runUnderlying76
  have g76 := Tryz.isAgg76
  have z76 := Tryz.sizeOf76
  have c78 := Tryz.call78
  have mixed : Tryz.prog.follows .mixedOrders = true := by kernel_rfl
  obtain ⟨k30, hk30⟩ : ∃ k, k = 17 := ⟨_, rfl⟩
  rw [← hk30] at z25
  have nk30 : ¬ k30 = 0 := by omega
  have HK25 := Lib.hid hk30
  obtain ⟨k40, hk40⟩ : ∃ k, k = 18 := ⟨_, rfl⟩
  rw [← hk40] at z29
  have nk40 : ¬ k40 = 0 := by omega
  have HK29 := Lib.hid hk40
  have hP : Tryz.prog = PD := rfl
  rw [hP] at t3 u3 g3 z3 t4 u4 g4 z4 t25 u25 g25 z25 t89 u89 g89 z89 t29 u29 g29 z29 t76 u76 g76 z76 c78 mixed ⊢
  have HP := Lib.hid hP.symm
  clear hP hk30 hk40
  go_wp2_with fail
  go_loopg [8] 17 (fun g s wr => ∃ (i : Nat), s = .int .i64 i ∧ i ≤ 15 ∧ 15 - i < g ∧ Hid (Fr No w wr ∧ ∀ (j : Nat) (q : Px), j < i → PL[j]? = some q → has q c ys = false))
  case atStart => exact ⟨0, by go_num, by omega, by omega, Fr.refl _ _, fun j q hj => by omega⟩
  case round =>
    obtain ⟨i, rfl, hi15, hig, HO⟩ := hrel
    by_cases hi : i < 15
    · obtain ⟨t, p, -, gp, -, -, -, hok⟩ := bl_at hi
      obtain ⟨ba, oa, rfl, lp⟩ := H2.out.1.load gp
      obtain ⟨P, hP⟩ : ∃ P, (pfx p.b p.xs p.n).toArray = P := ⟨_, rfl⟩
      have HCR : Hid (∀ w', Fr No w w' → Calls Tryz.prog 78 #[.agg P, .pointer (some ⟨bx, 0, none⟩)] w' fun e w'' => e = .returned (.bool (has p c ys)) ∧ Fr No w' w'') := fun w' h => by
        rw [← hP]
        exact idx1_any p c ys hok.1 H2.out.2.2 bx w' (h.keep H2.out.2.1)
      have l1 : Sem.run PD (loadCellsFrom ⟨ba, oa + i * k40, none⟩ 0 k40 #[]) wr = .ok P wr := by rw [HK29.out, ← hP]; exact lp PD wr HO.out.1
      have p1 : (0 : Int) ≤ (i : Int) := by omega
      have p2 : (i : Int) < 15 := by omega
      have HG := Lib.hid gp
      clear gp lp hP hok
      cases hh : has p c ys
      · rw [hh] at HCR
        go_wp2_with (first | (go_at_call 78; ((with_reducible refine (at_prog HP.out (HCR.out _ HO.out.1)).mono ?_); rintro e w3 ⟨rfl, hf3⟩)) | fail)
        go_roundg (15 - i)
        case measure => exact hig
        case rel =>
          refine ⟨i + 1, by go_num, by omega, by omega, HO.out.1.trans hf3, fun j q hj hq => ?_⟩
          by_cases hji : j = i
          · subst hji; rw [HG.out] at hq; cases hq; exact hh
          · exact HO.out.2 j q (by omega) hq
      · rw [hh] at HCR
        go_wp2_with (first | (go_at_call 78; ((with_reducible refine (at_prog HP.out (HCR.out _ HO.out.1)).mono ?_); rintro e w3 ⟨rfl, hf3⟩)) | fail)
        go_ret
        exact ⟨by rw [bIdx_some HG.out hh HO.out.2]; rfl, HO.out.1.trans hf3⟩
    · obtain rfl : i = 15 := by omega
      go_wp2_with fail
      go_ret
      exact ⟨by rw [bIdx_none fun j q hq => HO.out.2 j q (List.getElem?_eq_some_iff.1 hq).1 hq]; rfl, HO.out.1⟩

/-- A row that lies in one block. -/
theorem rowP_block {w : World} {g : Nat} (h : w.heap[g]? = some (.cells (flatP PL).toArray 29 (0, 0))) : RowP w (some ⟨g, 0, none⟩) PL :=
  ⟨PL_bytes, fun _ => ⟨g, 0, _, 29, (0, 0), rfl, h, fun j v hj => by rw [Nat.zero_add, List.getElem?_toArray]; exact hj⟩⟩
set_option maxHeartbeats 1000000 in
set_option maxRecDepth 100000 in
theorem index_any (c : Bool) (ys : List Nat) (hy : Bytes ys) (w : World) :
    Calls Tryz.prog 54 #[.agg (adr c ys).toArray] w fun e w' => e = .returned (.int .i64 (bIdx c ys)) ∧ Fr No w w' := by
  obtain ⟨A, hA, -, hAs, -⟩ := adr_letter c ys hy
  have HIF : Hid (∀ (w' : World) (bx g : Nat), w'.heap[g]? = some (.cells (flatP PL).toArray 29 (0, 0)) → w'.heap[bx]? = some (.cells A 25 (0, 0)) → Calls Tryz.prog 76 #[.slice (some ⟨g, 0, none⟩) 15 15, .func (.func 78) #[] #[.pointer (some ⟨bx, 0, none⟩)]] w' fun e w'' => e = .returned (.int .i64 (bIdx c ys)) ∧ Fr No w' w'') := fun w' bx g h1 h2 =>
    idxf_any c ys hy bx _ 15 w' (rowP_block h1) (by rw [hA]; exact h2)
  rw [hA]
  clear hA hy
  go_enter Tryz.func54, Tryz.ntmps54
  have t3 := Tryz.underlying3
  have u3 := Tryz.runUnderlying3
  have g3 := Tryz.isAgg3
  have z3 := Tryz.sizeOf3
  have t4 := Tryz.underlying4
  have u4 := Tryz.runUnderlying4
  have g4 := Tryz.isAgg4
  have z4 := Tryz.sizeOf4
  have t25 := Tryz.underlying25
  have u25 := Tryz.runUnderlying25
  have g25 := Tryz.isAgg25
  have z25 := Tryz.sizeOf25
  have t89 := Tryz.underlying89
  have u89 := Tryz.runUnderlying89
  have g89 := Tryz.isAgg89
  have z89 := Tryz.sizeOf89
  have t29 := Tryz.underlying29
  have u29 := Tryz.runUnderlying29
  have g29 := Tryz.isAgg29
  have z29 := Tryz.sizeOf29
  have t76 := Tryz.underlying76
  have u76 := Tryz.runUnderlying76
  have g76 := Tryz.isAgg76
  have z76 := Tryz.sizeOf76
  have c77 := Tryz.call77
  have c76 := Tryz.call76
  have mixed : Tryz.prog.follows .mixedOrders = true := by kernel_rfl
  obtain ⟨k30, hk30⟩ : ∃ k, k = 17 := ⟨_, rfl⟩
  rw [← hk30] at z25
  have nk30 : ¬ k30 = 0 := by omega
  have HK25 := Lib.hid hk30
  obtain ⟨k40, hk40⟩ : ∃ k, k = 18 := ⟨_, rfl⟩
  rw [← hk40] at z29
  have nk40 : ¬ k40 = 0 := by omega
  have HK29 := Lib.hid hk40
  have hP : Tryz.prog = PD := rfl
  rw [hP] at t3 u3 g3 z3 t4 u4 g4 z4 t25 u25 g25 z25 t89 u89 g89 z89 t29 u29 g29 z29 t76 u76 g76 z76 c77 c76 mixed ⊢
  have HP := Lib.hid hP.symm
  clear hP hk30 hk40
  have hAk : A.size = k30 := by rw [HK25.out]; exact hAs
  clear hAs
  have F1 : Fr No w (w.alloc (.cells A 25)) := Fr.alloc No w _
  go_wp2_with (first | (go_at_call 77; ((with_reducible refine (at_prog HP.out (prefixes_any _)).mono ?_); rintro e w2 ⟨g, rfl, -, hg2, hf2⟩)) | (go_at_call 76; ((with_reducible refine (at_prog HP.out (HIF.out _ _ _ hg2 (hf2.keep (heap_alloc_new w _)))).mono ?_); rintro e w3 ⟨rfl, hf3⟩)) | fail)
  go_ret
  exact ⟨rfl, (F1.trans hf2).trans hf3⟩

set_option maxHeartbeats 1000000 in
set_option maxRecDepth 100000 in
theorem contains_any (c : Bool) (ys : List Nat) (hy : Bytes ys) (w : World) :
    Calls Tryz.prog 31 #[.agg (adr c ys).toArray] w fun e w' => e = .returned (.bool (!validA c ys || decide (0 ≤ bIdx c ys))) ∧ Fr No w w' := by
  obtain ⟨A, hA, -, hAs, -⟩ := adr_letter c ys hy
  have HV : Hid (∀ w', Calls Tryz.prog 53 #[.agg A] w' fun e w'' => e = .returned (.bool (validA c ys)) ∧ Fr No w' w'') := fun w' => by rw [← hA]; exact valid_any c ys hy w'
  have HI : Hid (∀ w', Calls Tryz.prog 54 #[.agg A] w' fun e w'' => e = .returned (.int .i64 (bIdx c ys)) ∧ Fr No w' w'') := fun w' => by rw [← hA]; exact index_any c ys hy w'
  rw [hA]
  clear hA hy
  go_enter Tryz.func31, Tryz.ntmps31
  have t3 := Tryz.underlying3
  have u3 := Tryz.runUnderlying3
  have g3 := Tryz.isAgg3
  have z3 := Tryz.sizeOf3
  have t4 := Tryz.underlying4
  have u4 := Tryz.runUnderlying4
  have g4 := Tryz.isAgg4
  have z4 := Tryz.sizeOf4
  have t25 := Tryz.underlying25
  have u25 := Tryz.runUnderlying25
  have g25 := Tryz.isAgg25
  have z25 := Tryz.sizeOf25
  have c54 := Tryz.call54
  have c53 := Tryz.call53
  have mixed : Tryz.prog.follows .mixedOrders = true := by kernel_rfl
  obtain ⟨k30, hk30⟩ : ∃ k, k = 17 := ⟨_, rfl⟩
  rw [← hk30] at z25
  have nk30 : ¬ k30 = 0 := by omega
  have HK25 := Lib.hid hk30
  have hP : Tryz.prog = PD := rfl
  rw [hP] at t3 u3 g3 z3 t4 u4 g4 z4 t25 u25 g25 z25 c54 c53 mixed ⊢
  have HP := Lib.hid hP.symm
  clear hP hk30
  have hAk : A.size = k30 := by rw [HK25.out]; exact hAs
  clear hAs
  have F1 : Fr No w (w.alloc (.cells A 25)) := Fr.alloc No w _
  have l1 : Sem.run PD (loadCellsFrom ⟨w.heap.size, 0, none⟩ 0 k30 #[]) (w.alloc (.cells A 25)) = .ok A (w.alloc (.cells A 25)) := load_block (heap_alloc_new w _) hAk (fun j v hv => by simpa using hv)
  cases hv : validA c ys
  · rw [hv] at HV
    go_wp2_with (first | (go_at_call 53; ((with_reducible refine (at_prog HP.out (HV.out _)).mono ?_); rintro e w2 ⟨rfl, hf2⟩)) | fail)
    go_ret
    exact ⟨rfl, F1.trans hf2⟩
  · rw [hv] at HV
    rcases bIdx_two c ys with hb | ⟨i, -, hb⟩
    all_goals (
      rw [hb] at HI
      have hi : (0 : Int) ≤ ((bIdx c ys).toNat : Int) := by omega
      go_wp2_with (first | (go_at_call 53; ((with_reducible refine (at_prog HP.out (HV.out _)).mono ?_); rintro e w2 ⟨rfl, hf2⟩; have l2 : Sem.run PD (loadCellsFrom ⟨w.heap.size, 0, none⟩ 0 k30 #[]) w2 = .ok A w2 := load_block (hf2.keep (heap_alloc_new w _)) hAk (fun j v hv => by simpa using hv))) | (go_at_call 54; ((with_reducible refine (at_prog HP.out (HI.out _)).mono ?_); rintro e w3 ⟨rfl, hf3⟩)) | fail)
      go_ret
      exact ⟨by simp [hb], (F1.trans hf2).trans hf3⟩)

end Go.Proofs.YtnadendhboiliaaGreat
