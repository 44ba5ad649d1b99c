/-
  CONTRACT of the law's agrees, over this seat's translation: it returns true of a trie and its list.
  Conditions: the trie and the row lie in memory.
-/
import Derived.Test.YtnbohhiooigmbaaEz
import Derived.Test.YtnbohhiooigmbaaXoI
namespace Go.Proofs.Ytnbohhiooigmbaa
open Go.ChangeShapes Go.WideShapes Go.ChangeAt Go.RowKit
set_option linter.unusedVariables false

/-- Where a listed prefix stands. -/
theorem findX_at {L : List (Px × Value)} {e : Px × Value} (hs : Srt L) (he : e ∈ L) : ∃ j : Nat, findX e.1 L = j ∧ L[j]? = some e := by
  cases hf : L.findIdx? fun x => decide (x.1 = e.1) with
  | none =>
    rw [List.findIdx?_eq_none_iff] at hf
    have := hf e he
    simp at this
  | some j =>
    rw [List.findIdx?_eq_some_iff_getElem] at hf
    obtain ⟨hj, hp, hmin⟩ := hf
    have hq : L[j].1 = e.1 := by simpa using hp
    have h1 : valL L e.1 = some e.2 := (valL_iff hs).2 he
    have h2 : valL L e.1 = some L[j].2 := (valL_iff hs).2 (by rw [← hq]; exact List.getElem_mem hj)
    rw [h1] at h2
    refine ⟨j, ?_, ?_⟩
    · unfold findX
      rw [show L.findIdx? (fun x => decide (x.1 = e.1)) = some j by
        rw [List.findIdx?_eq_some_iff_getElem]; exact ⟨hj, hp, hmin⟩]
    · rw [List.getElem?_eq_getElem hj]
      congr 1
      exact Prod.ext hq (Option.some.inj h2).symm

set_option maxHeartbeats 8000000 in
set_option maxRecDepth 100000 in
theorem agrees_any (t : Nat) (L : List (Px × Value)) (X : Nat → Prop) (a : Option Addr) (n c : Nat) (cf : Bool) (ys : List Nat) (w : World) (hS : StI w t L X) (hr : RowE w a L) (hL : L.length = n) (hn : n ≤ 100) (hy : Bytes ys) :
    Calls Try.prog 17 #[.pointer (some ⟨t, 0, none⟩), .slice a n c, .agg (adr cf ys).toArray] w fun e w' => e = .returned (.bool true) ∧ Fr No w w' := by
  obtain ⟨Y, hY, -, hYs, -⟩ := adr_letter cf ys hy
  obtain ⟨Z, hZ⟩ : ∃ Z : Array Value, noP.toArray = Z := ⟨_, rfl⟩
  have v31 := zero31
  rw [hZ] at v31
  have hZs : Z.size = 18 := by rw [← hZ]; rfl
  obtain ⟨M, hM⟩ : ∃ M, inL L cf ys = M := ⟨_, rfl⟩
  obtain ⟨m, hm⟩ : ∃ m, M.length = m := ⟨_, rfl⟩
  obtain ⟨A, hA⟩ : ∃ A, M.map (fun e => e.1) = A := ⟨_, rfl⟩
  have hm100 : m ≤ 100 := by rw [← hm, ← hM]; exact Nat.le_trans (List.length_filter_le _ _) (by omega)
  have hML : ∀ e ∈ M, e ∈ L := fun e he => by rw [← hM] at he; exact (List.mem_filter.1 he).1
  have hAb : ∀ q ∈ A, Bytes q.xs := fun q hq => by
    rw [← hA] at hq
    obtain ⟨e, he, rfl⟩ := List.mem_map.1 hq
    exact (hS.srt.2 e (hML e he)).1
  have hAm : A.length = m := by rw [← hA, List.length_map, hm]
  have HWK : Hid (∀ w', Fr No w w' → Calls Try.prog 43 #[.slice a n c, .agg Y] w' fun e w'' => ∃ ad cp, e = .returned (.slice ad m cp) ∧ RowP w'' ad A ∧ Fr No w' w'') := fun w' h => by
    have h := walk_any a n c L cf ys w' (hr.no h) hL hn hy
    rw [lensL_all hS.srt.1 hS.srt.2, hM, hA, hY] at h
    refine h.mono ?_
    rintro e w'' ⟨ad, m', cp, he, ho, hf⟩
    obtain ⟨h1, h2⟩ := RowP.own hAb ho
    obtain rfl : m' = m := by omega
    exact ⟨ad, cp, he, h1, hf⟩
  have HMT : Hid (∀ w', Fr No w w' → Calls Try.prog 26 #[.pointer (some ⟨t, 0, none⟩), .agg Y] w' fun e w'' => ∃ ad cp, e = .returned (.slice ad m cp) ∧ RowP w'' ad A ∧ Fr No w' w'') := fun w' h => by
    have h := matchesSI (hS.no h) cf ys hy
    rw [hY, hM, hm, hA] at h
    refine h.mono ?_
    rintro e w'' ⟨ad, cp, he, ho, hf⟩
    exact ⟨ad, cp, he, (RowP.own hAb ho).1, hf⟩
  have HLK : Hid (∀ w', Fr No w w' → Calls Try.prog 25 #[.pointer (some ⟨t, 0, none⟩), .agg Y] w' fun e w'' => e = .returned (.tuple #[.agg (endP M).toArray, endV (.int .i64 0) M, .bool (!M.isEmpty)]) ∧ Fr No w' w'') := fun w' h => by
    have h := lookupSI (hS.no h) cf ys hy
    rw [hY, hM] at h
    exact h
  have HEQ : Hid (∀ (w' : World) (ad ad' : Option Addr) (cp cp' : Nat), RowP w' ad A → RowP w' ad' A → Calls Try.prog 35 #[.slice ad m cp, .slice ad' m cp'] w' fun e w'' => e = .returned (.bool true) ∧ Fr No w' w'') := fun w' ad ad' cp cp' h1 h2 => by
    have h := equal_any ad ad' m m cp cp' A A w' h1 h2 hAm hAm (by omega)
    rw [decide_eq_true rfl] at h
    exact h
  have HFD : Hid (∀ (w' : World) (p : Px), Fr No w w' → Bytes p.xs → Calls Try.prog 10 #[.slice a n c, .agg (pfx p.b p.xs p.n).toArray] w' fun e w'' => e = .returned (.int .i64 (findX p L)) ∧ Fr No w' w'') := fun w' p h hp => find_any a n c L p w' (hr.no h) hL (by omega) hp
  have HX := Lib.hid (And.intro hr (And.intro hL (And.intro hS.srt (And.intro hA (And.intro hML (And.intro hm (And.intro hAb hZ)))))))
  rw [hY]
  have q31 := Try.eqGuardType31
  by_cases hm0 : m = 0
  · obtain rfl : M = [] := List.length_eq_zero_iff.1 (by omega)
    subst hm0
    rw [show (endP []).toArray = Z from hZ] at HLK
    replace HLK : Hid (∀ w', Fr No w w' → Calls Try.prog 25 #[.pointer (some ⟨t, 0, none⟩), .agg Y] w' fun e w'' => e = .returned (.tuple #[.agg Z, .int .i64 0, .bool false]) ∧ Fr No w' w'') := HLK
    have hZe : ∀ w', Sem.run Try.prog (Op.equalIn 10000 31 (.agg Z) (.agg Z)) w' = .ok true w' := fun w' => by
      rw [← hZ, noP, pfx_eq 0 0 zeros_bytes zeros_bytes w', decide_eq_true ⟨⟨rfl, rfl⟩, rfl⟩]
    have hZ1 : ∀ u ∈ Z.toList, u.oneCell' = true := by rw [← hZ]; exact pfx_one _ _ _
    have HZ1 := Lib.hid hZ1
    clear hr hL hY hy hS hM hm hA hML hAb hAm hZ hZ1
    go_enter Try.func17, Try.ntmps17
    have t3 := Try.underlying3
    have u3 := Try.runUnderlying3
    have g3 := Try.isAgg3
    have z3 := Try.sizeOf3
    have t4 := Try.underlying4
    have u4 := Try.runUnderlying4
    have g4 := Try.isAgg4
    have z4 := Try.sizeOf4
    have t24 := Try.underlying24
    have u24 := Try.runUnderlying24
    have g24 := Try.isAgg24
    have z24 := Try.sizeOf24
    have t26 := Try.underlying26
    have u26 := Try.runUnderlying26
    have g26 := Try.isAgg26
    have z26 := Try.sizeOf26
    have t29 := Try.underlying29
    have u29 := Try.runUnderlying29
    have g29 := Try.isAgg29
    have z29 := Try.sizeOf29
    have t31 := Try.underlying31
    have u31 := Try.runUnderlying31
    have g31 := Try.isAgg31
    have z31 := Try.sizeOf31
    have t37 := Try.underlying37
    have u37 := Try.runUnderlying37
    have g37 := Try.isAgg37
    have z37 := Try.sizeOf37
    have t47 := Try.underlying47
    have u47 := Try.runUnderlying47
    have g47 := Try.isAgg47
    have z47 := Try.sizeOf47
    have c10 := Try.call10
    have c25 := Try.call25
    have c26 := Try.call26
    have c35 := Try.call35
    have c43 := Try.call43
    have mixed : Try.prog.follows .mixedOrders = true := by kernel_rfl
    obtain ⟨k30, hk30⟩ : ∃ k, k = 17 := ⟨_, rfl⟩
    rw [← hk30] at z29
    have nk30 : ¬ k30 = 0 := by omega
    have HK29 := Lib.hid hk30
    obtain ⟨k40, hk40⟩ : ∃ k, k = 18 := ⟨_, rfl⟩
    rw [← hk40] at z31
    have nk40 : ¬ k40 = 0 := by omega
    have HK31 := Lib.hid hk40
    have hP : Try.prog = PD := rfl
    rw [hP] at t3 u3 g3 z3 t4 u4 g4 z4 t24 u24 g24 z24 t26 u26 g26 z26 t29 u29 g29 z29 t31 u31 g31 z31 t37 u37 g37 z37 t47 u47 g47 z47 c10 c25 c26 c35 c43 mixed v31 q31 hZe ⊢
    have HP := Lib.hid hP.symm
    clear hP hk30 hk40
    have hYk : Y.size = k30 := by rw [HK29.out]; exact hYs
    have hZk : Z.size = k40 := by rw [HK31.out]; exact hZs
    clear hYs hZs
    obtain ⟨w1, hw1⟩ : ∃ w1, w.alloc (.cells Y 29) = w1 := ⟨_, rfl⟩
    have F1 : Fr No w w1 := by rw [← hw1]; exact Fr.alloc No w _
    have k1 : w1.heap[w.heap.size]? = some (.cells Y 29 (0, 0)) := by rw [← hw1]; exact heap_alloc_new w _
    obtain ⟨bx, hbx⟩ : ∃ bx, w.heap.size = bx := ⟨_, rfl⟩
    rw [hbx] at k1
    have HLY : Hid (∀ w', Fr No w1 w' → Sem.run PD (loadCellsFrom ⟨bx, 0, none⟩ 0 k30 #[]) w' = .ok Y w') := fun w' h => load_block (h.keep k1) hYk (fun j v hv => by simpa using hv)
    have l1 := HLY.out _ (Fr.refl No w1)
    have HF1 := Lib.hid F1
    clear F1 k1
    go_wp2_with (first | (go_at_call 43; ((with_reducible refine (at_prog HP.out (HWK.out w1 HF1.out)).mono ?_); rintro e w2 ⟨ad2, cp2, rfl, hrow2, hf2⟩; have l2 := HLY.out _ hf2)) | (go_at_call 25; ((with_reducible refine (at_prog HP.out (HLK.out w2 (HF1.out.trans hf2))).mono ?_); rintro e w3 ⟨rfl, hf3⟩; obtain ⟨y3, hst3, hyb3, hyf3⟩ := store_all (P := PD) Z.toList (heap_alloc_new w3 (.cells Z 31)) (by rw [Array.length_toList]) HZ1.out; have K3 : Fr No w2 y3 := (hf3.trans (Fr.alloc No w3 (.cells Z 31))).ofNew hyf3 (fun k hk => .inr (by rw [hk]; exact hf3.size)); have l3 := HLY.out _ (hf2.trans K3))) | (go_at_call 26; ((with_reducible refine (at_prog HP.out (HMT.out y3 ((HF1.out.trans hf2).trans K3))).mono ?_); rintro e w4 ⟨ad4, cp4, rfl, hrow4, hf4⟩)) | (go_at_call 35; ((with_reducible refine (at_prog HP.out (HEQ.out _ _ _ _ _ hrow4 (hrow2.no (K3.trans hf4)))).mono ?_); rintro e w5 ⟨rfl, hf5⟩; have K5 : Fr No w y3 := (HF1.out.trans hf2).trans K3; have l5 : Sem.run PD (loadCellsFrom ⟨w3.heap.size, 0, none⟩ 0 k40 #[]) w5 = .ok Z w5 := load_block ((hf4.trans hf5).keep hyb3) hZk (fun j v hv => by simpa using hv))) | fail)
    go_ret
    exact ⟨rfl, K5.trans (hf4.trans hf5)⟩
  · obtain ⟨k, rfl⟩ : ∃ k, m = k + 1 := ⟨m - 1, by omega⟩
    have hne : M ≠ [] := fun h => by rw [h] at hm; cases hm
    obtain ⟨e, he⟩ : ∃ e, M.getLast hne = e := ⟨_, rfl⟩
    have heM : e ∈ M := by rw [← he]; exact List.getLast_mem hne
    have hlast : M.getLast? = some e := by rw [List.getLast?_eq_some_getLast hne, he]
    have hAk : A[k]? = some e.1 := by
      rw [List.getLast?_eq_getElem?, hm] at hlast
      rw [← hA, List.getElem?_map, show k = k + 1 - 1 by omega, hlast]; rfl
    have hok := hr.1 e (hML e heM)
    obtain ⟨z, hz⟩ := hok.2
    obtain ⟨j, hj, hLj⟩ := findX_at hS.srt.1 (hML e heM)
    obtain ⟨PE, hPE, -, -, hPs, -, hP1⟩ := pfx_letter e.1.b e.1.xs e.1.n hok.1
    rw [show endP M = pfx e.1.b e.1.xs e.1.n by unfold endP; rw [hlast], show endV (.int .i64 0) M = e.2 by unfold endV; rw [hlast], show M.isEmpty = false by cases M with | nil => exact absurd rfl hne | cons a l => rfl, hPE, hz] at HLK
    replace HLK : Hid (∀ w', Fr No w w' → Calls Try.prog 25 #[.pointer (some ⟨t, 0, none⟩), .agg Y] w' fun e w'' => e = .returned (.tuple #[.agg PE, .int .i64 z, .bool true]) ∧ Fr No w' w'') := HLK
    have hPP : ∀ w', Sem.run Try.prog (Op.equalIn 10000 31 (.agg PE) (.agg PE)) w' = .ok true w' := fun w' => by
      rw [← hPE, pfx_eq e.1.n e.1.n hok.1 hok.1 w', decide_eq_true ⟨⟨rfl, rfl⟩, rfl⟩]
    have HFE : Hid (∀ w', Fr No w w' → Calls Try.prog 10 #[.slice a n c, .agg PE] w' fun e w'' => e = .returned (.int .i64 (j : Int)) ∧ Fr No w' w'') := fun w' h => by
      have h := HFD.out w' e.1 h hok.1
      rw [hj, hPE] at h
      exact h
    obtain ⟨ba, oa, rfl, lx⟩ := hr.at hLj
    have HCX : Hid (∀ w', Fr No w w' → w'.cell? ⟨ba, oa + j * 19 + 18, none⟩ = some (.int .i64 z)) := fun w' h => by rw [← hz]; exact (lx Try.prog w' h).2.2.2
    have HRW : Hid (∀ (w' : World) (ad : Option Addr), RowP w' ad A → ∃ b o, ad = some ⟨b, o, none⟩ ∧ ∀ (P : Program) (w'' : World), Fr No w' w'' → Sem.run P (loadCellsFrom ⟨b, o + k * 18, none⟩ 0 18 #[]) w'' = .ok PE w'') := fun w' ad h => by
      rw [← hPE]; exact h.load hAk
    have hjn : j < n := by rw [← hL]; exact (List.getElem?_eq_some_iff.1 hLj).1
    have HP1 := Lib.hid hP1
    clear hr hL hY hy hS hM hm hA hML hAb hAm hZ hne he heM hlast hAk hok hz hj hLj hPE hP1 lx HFD HX hm0
    have p1 : (0 : Int) < (k : Int) + 1 := by omega
    have p2 : (0 : Int) ≤ (k : Int) := by omega
    have p3 : (k : Int) < (k : Int) + 1 := by omega
    have p4 : (0 : Int) ≤ (j : Int) := by omega
    have p5 : (j : Int) < (n : Int) := by omega
    go_enter Try.func17, Try.ntmps17
    have t3 := Try.underlying3
    have u3 := Try.runUnderlying3
    have g3 := Try.isAgg3
    have z3 := Try.sizeOf3
    have t4 := Try.underlying4
    have u4 := Try.runUnderlying4
    have g4 := Try.isAgg4
    have z4 := Try.sizeOf4
    have t24 := Try.underlying24
    have u24 := Try.runUnderlying24
    have g24 := Try.isAgg24
    have z24 := Try.sizeOf24
    have t26 := Try.underlying26
    have u26 := Try.runUnderlying26
    have g26 := Try.isAgg26
    have z26 := Try.sizeOf26
    have t29 := Try.underlying29
    have u29 := Try.runUnderlying29
    have g29 := Try.isAgg29
    have z29 := Try.sizeOf29
    have t31 := Try.underlying31
    have u31 := Try.runUnderlying31
    have g31 := Try.isAgg31
    have z31 := Try.sizeOf31
    have t37 := Try.underlying37
    have u37 := Try.runUnderlying37
    have g37 := Try.isAgg37
    have z37 := Try.sizeOf37
    have t47 := Try.underlying47
    have u47 := Try.runUnderlying47
    have g47 := Try.isAgg47
    have z47 := Try.sizeOf47
    have c10 := Try.call10
    have c25 := Try.call25
    have c26 := Try.call26
    have c35 := Try.call35
    have c43 := Try.call43
    have mixed : Try.prog.follows .mixedOrders = true := by kernel_rfl
    obtain ⟨k30, hk30⟩ : ∃ k, k = 17 := ⟨_, rfl⟩
    rw [← hk30] at z29
    have nk30 : ¬ k30 = 0 := by omega
    have HK29 := Lib.hid hk30
    obtain ⟨k40, hk40⟩ : ∃ k, k = 18 := ⟨_, rfl⟩
    rw [← hk40] at z31
    have nk40 : ¬ k40 = 0 := by omega
    have HK31 := Lib.hid hk40
    obtain ⟨k19, hk19⟩ : ∃ k, k = 19 := ⟨_, rfl⟩
    rw [← hk19] at z37
    have nk19 : ¬ k19 = 0 := by omega
    have HK37 := Lib.hid hk19
    have hP : Try.prog = PD := rfl
    rw [hP] at t3 u3 g3 z3 t4 u4 g4 z4 t24 u24 g24 z24 t26 u26 g26 z26 t29 u29 g29 z29 t31 u31 g31 z31 t37 u37 g37 z37 t47 u47 g47 z47 c10 c25 c26 c35 c43 mixed v31 q31 hPP ⊢
    have HP := Lib.hid hP.symm
    clear hP hk30 hk40 hk19
    have hYk : Y.size = k30 := by rw [HK29.out]; exact hYs
    have hZk : Z.size = k40 := by rw [HK31.out]; exact hZs
    have hPk : PE.size = k40 := by rw [HK31.out]; exact hPs
    clear hYs hZs hPs
    obtain ⟨w1, hw1⟩ : ∃ w1, w.alloc (.cells Y 29) = w1 := ⟨_, rfl⟩
    have F1 : Fr No w w1 := by rw [← hw1]; exact Fr.alloc No w _
    have k1 : w1.heap[w.heap.size]? = some (.cells Y 29 (0, 0)) := by rw [← hw1]; exact heap_alloc_new w _
    obtain ⟨bx, hbx⟩ : ∃ bx, w.heap.size = bx := ⟨_, rfl⟩
    rw [hbx] at k1
    have HLY : Hid (∀ w', Fr No w1 w' → Sem.run PD (loadCellsFrom ⟨bx, 0, none⟩ 0 k30 #[]) w' = .ok Y w') := fun w' h => load_block (h.keep k1) hYk (fun j v hv => by simpa using hv)
    have l1 := HLY.out _ (Fr.refl No w1)
    have HF1 := Lib.hid F1
    clear F1 k1
    go_wp2_with (first | (go_at_call 43; ((with_reducible refine (at_prog HP.out (HWK.out w1 HF1.out)).mono ?_); rintro e w2 ⟨ad2, cp2, rfl, hrow2, hf2⟩; have l2 := HLY.out _ hf2; obtain ⟨bw, ow, rfl, HWE⟩ := HRW.out _ _ hrow2; replace HWE := Lib.hid HWE)) | (go_at_call 25; ((with_reducible refine (at_prog HP.out (HLK.out w2 (HF1.out.trans hf2))).mono ?_); rintro e w3 ⟨rfl, hf3⟩; obtain ⟨y3, hst3, hyb3, hyf3⟩ := store_all (P := PD) PE.toList (heap_alloc_new w3 (.cells Z 31)) (by rw [Array.length_toList, hPk, hZk]) HP1.out; have K3 : Fr No w2 y3 := (hf3.trans (Fr.alloc No w3 (.cells Z 31))).ofNew hyf3 (fun k hk => .inr (by rw [hk]; exact hf3.size)); have l3 := HLY.out _ (hf2.trans K3))) | (go_at_call 26; ((with_reducible refine (at_prog HP.out (HMT.out y3 ((HF1.out.trans hf2).trans K3))).mono ?_); rintro e w4 ⟨ad4, cp4, rfl, hrow4, hf4⟩)) | (go_at_call 35; ((with_reducible refine (at_prog HP.out (HEQ.out _ _ _ _ _ hrow4 (hrow2.no (K3.trans hf4)))).mono ?_); rintro e w5 ⟨rfl, hf5⟩)) | fail)
    have K5 : Fr No w w5 := (((HF1.out.trans hf2).trans K3).trans hf4).trans hf5
    obtain ⟨b8, hb8⟩ : ∃ b8, w3.heap.size = b8 := ⟨_, rfl⟩
    rw [hb8] at hyb3
    rw [hb8]
    have HS : Hid (∀ w', Fr No w5 w' → Fr No w5 w' ∧ Sem.run PD (loadCellsFrom ⟨b8, 0, none⟩ 0 k40 #[]) w' = .ok PE w' ∧ Sem.run PD (loadCellsFrom ⟨bw, ow + k * k40, none⟩ 0 k40 #[]) w' = .ok PE w' ∧ w'.cell? ⟨ba, oa + j * k19 + 18, none⟩ = some (.int .i64 z)) := fun w' h => ⟨h, load_block (((hf4.trans hf5).trans h).keep hyb3) hPk (fun j v hv => by simpa using hv), by rw [HK31.out]; exact HWE.out PD w' (((K3.trans hf4).trans hf5).trans h), by rw [HK37.out]; exact HCX.out w' (K5.trans h)⟩
    have hwk : IntKind.i64.wrap (k : Int) = (k : Int) := by rw [IntKind.wrap_i64]; omega
    have hwk2 : IntKind.i64.wrap ((k : Int) + 1 - 1) = (k : Int) := by rw [IntKind.wrap_i64]; omega
    have f1 := HS.out _ (Fr.drew No w5)
    go_region_held3 (fun w' => Fr No w5 w' ∧ Sem.run PD (loadCellsFrom ⟨b8, 0, none⟩ 0 k40 #[]) w' = .ok PE w' ∧ Sem.run PD (loadCellsFrom ⟨bw, ow + k * k40, none⟩ 0 k40 #[]) w' = .ok PE w' ∧ w'.cell? ⟨ba, oa + j * k19 + 18, none⟩ = some (.int .i64 z)) (first | assumption | (with_reducible exact HS.out _ K6)) (first | (go_at_call 10; ((with_reducible refine (at_prog HP.out (HFE.out _ (K5.trans (And.left (by assumption))))).mono ?_); rintro e w6 ⟨rfl, hf6⟩; have K6 : Fr No w5 w6 := Fr.trans (And.left (by assumption)) hf6)))
    all_goals (
      go_wp2_with fail
      go_ret
      exact ⟨rfl, K5.trans K6⟩)
end Go.Proofs.Ytnbohhiooigmbaa
