/-
  CONTRACTS of Lookup of package trie at one value type, over this seat's translation.
  Conditions: the trie lies in memory.
-/
import Derived.Test.YtnbohhiooigmbaaXdI
namespace Go.Proofs.Ytnbohhiooigmbaa
open Go.ChangeShapes Go.WideShapes Go.ChangeAt Go.RowKit
set_option linter.unusedVariables false

set_option maxHeartbeats 4000000 in
set_option maxRecDepth 100000 in
theorem lookupI (c : Bool) (ys : List Nat) (hy : Bytes ys) (a : Nat) (t4 t6 : Tr) (w : World) (hT : Tri 81 3 75 w a t4 t6) :
    Calls Try.prog 25 #[.pointer (some ⟨a, 0, none⟩), .agg (adr c ys).toArray] w fun e w' => e = .returned (.tuple #[.agg (lastP (pth c ys (if c = true then t6 else t4))).toArray, lastV (.int .i64 0) (pth c ys (if c = true then t6 else t4)), .bool (!(pth c ys (if c = true then t6 else t4)).isEmpty)]) ∧ Fr No w w' := by
  obtain ⟨L, hL⟩ : ∃ L, pth c ys (if c = true then t6 else t4) = L := ⟨_, rfl⟩
  have HPT : Hid (∀ w', Fr No w w' → Calls Try.prog 53 #[.pointer (some ⟨a, 0, none⟩), .agg (adr c ys).toArray] w' fun e w'' => ∃ ad cp, e = .returned (.slice ad L.length cp) ∧ At w'' ad (ptrs L) ∧ Fr No w' w'') := fun w' hf => by
    have h := pathI c ys hy a t4 t6 w' (hT.no hf)
    rw [hL] at h
    exact h
  have HIN : Hid (∀ e ∈ L, ∃ l r, w.heap[e.1]? = some (.cells (cellsOf e.2.1 (some (e.2.2.1, e.2.2.2)) l r).toArray 81 (0, 0)) ∧ w.heap[e.2.2.1]? = some (.cells #[e.2.2.2] 3 (0, 0)) ∧ okP e.2.1) := by
    rw [← hL]
    cases c with
    | true => rw [if_pos rfl]; exact pth_in hT.i6 hT.w6
    | false => rw [if_neg (by decide)]; exact pth_in hT.i4 hT.w4
  have hL129 : L.length ≤ 129 := by
    rw [← hL]
    cases c with
    | true => rw [if_pos rfl]; exact pth_129 hT.w6
    | false => rw [if_neg (by decide)]; exact pth_129 hT.w4
  rw [hL]
  obtain ⟨Z, hZ⟩ : ∃ Z : Array Value, noP.toArray = Z := ⟨_, rfl⟩
  have v31 := zero31
  rw [hZ] at v31
  have hz18 : Z.size = 18 := by rw [← hZ]; rfl
  have hz1 : ∀ u ∈ Z.toList, u.oneCell' = true := by rw [← hZ]; exact pfx_one _ _ _
  obtain ⟨B, hB, -, hBs, -⟩ := adr_letter c ys hy
  rw [hB] at HPT ⊢
  obtain ⟨b1, b2, hF⟩ := alloc2 w (.cells B 29) (.cells Z 31)
  have HB : Hid (((w.alloc (.cells B 29)).alloc (.cells Z 31)).heap[w.heap.size]? = some (.cells B 29 (0, 0)) ∧ ((w.alloc (.cells B 29)).alloc (.cells Z 31)).heap[w.heap.size + 1]? = some (.cells Z 31 (0, 0)) ∧ Fr No w ((w.alloc (.cells B 29)).alloc (.cells Z 31))) := ⟨b1, b2, hF⟩
  have HZ := Lib.hid (And.intro hZ hz1)
  clear hB hT hL hy hZ hz1 b1 b2 hF
  go_enter Try.func25, Try.ntmps25
  have t3 := Try.underlying3
  have u3 := Try.runUnderlying3
  have g3 := Try.isAgg3
  have z3 := Try.sizeOf3
  have t4 := Try.underlying4
  have u4 := Try.runUnderlying4
  have g4 := Try.isAgg4
  have z4 := Try.sizeOf4
  have t9 := Try.underlying9
  have u9 := Try.runUnderlying9
  have g9 := Try.isAgg9
  have z9 := Try.sizeOf9
  have t29 := Try.underlying29
  have u29 := Try.runUnderlying29
  have g29 := Try.isAgg29
  have z29 := Try.sizeOf29
  have t31 := Try.underlying31
  have u31 := Try.runUnderlying31
  have g31 := Try.isAgg31
  have z31 := Try.sizeOf31
  have t73 := Try.underlying73
  have u73 := Try.runUnderlying73
  have g73 := Try.isAgg73
  have z73 := Try.sizeOf73
  have t81 := Try.underlying81
  have u81 := Try.runUnderlying81
  have g81 := Try.isAgg81
  have z81 := Try.sizeOf81
  have t79 := Try.underlying79
  have u79 := Try.runUnderlying79
  have g79 := Try.isAgg79
  have z79 := Try.sizeOf79
  have t84 := Try.underlying84
  have u84 := Try.runUnderlying84
  have g84 := Try.isAgg84
  have z84 := Try.sizeOf84
  have t24 := Try.underlying24
  have u24 := Try.runUnderlying24
  have g24 := Try.isAgg24
  have z24 := Try.sizeOf24
  have t78 := Try.underlying78
  have u78 := Try.runUnderlying78
  have g78 := Try.isAgg78
  have z78 := Try.sizeOf78
  have t75 := Try.underlying75
  have u75 := Try.runUnderlying75
  have g75 := Try.isAgg75
  have z75 := Try.sizeOf75
  have t97 := Try.underlying97
  have u97 := Try.runUnderlying97
  have g97 := Try.isAgg97
  have z97 := Try.sizeOf97
  have c53 := Try.call53
  have mixed : Try.prog.follows .mixedOrders = true := by kernel_rfl
  obtain ⟨k30, hk30⟩ : ∃ k, k = 17 := ⟨_, rfl⟩
  rw [← hk30] at z29
  have nk30 : ¬ k30 = 0 := by omega
  have HK29 := Lib.hid hk30
  obtain ⟨k40, hk40⟩ : ∃ k, k = 18 := ⟨_, rfl⟩
  rw [← hk40] at z31
  have nk40 : ¬ k40 = 0 := by omega
  have HK31 := Lib.hid hk40
  have hP : Try.prog = PD := rfl
  rw [hP] at t3 u3 g3 z3 t4 u4 g4 z4 t9 u9 g9 z9 t29 u29 g29 z29 t31 u31 g31 z31 t73 u73 g73 z73 t81 u81 g81 z81 t79 u79 g79 z79 t84 u84 g84 z84 t24 u24 g24 z24 t78 u78 g78 z78 t75 u75 g75 z75 t97 u97 g97 z97 c53 mixed v31 ⊢
  have HP := Lib.hid hP.symm
  clear hP hk30 hk40
  have hBk : B.size = k30 := by rw [HK29.out]; exact hBs
  have hZk : Z.size = k40 := by rw [HK31.out]; exact hz18
  clear hBs
  have l0 : Sem.run PD (loadCellsFrom ⟨w.heap.size, 0, none⟩ 0 k30 #[]) ((w.alloc (.cells B 29)).alloc (.cells Z 31)) = .ok B ((w.alloc (.cells B 29)).alloc (.cells Z 31)) := load_block HB.out.1 hBk (fun j v hv => by simpa using hv)
  cases hLe : L.getLast? with
  | none =>
    have hLn : L = [] := List.getLast?_eq_none_iff.1 hLe
    subst hLn
    go_wp2_with (first | (go_at_call 53; go_loud (refine (at_prog HP.out (HPT.out _ HB.out.2.2)).mono ?_; rintro e w3 ⟨ad, cp, rfl, hat, hf3⟩; obtain ⟨y, hst, hyb, hyf⟩ := store_all (P := PD) Z.toList (hf3.keep HB.out.2.1) (by rw [Array.length_toList]) HZ.out.2)) | fail)
    refine bodyPost_ret_by (results_agg_tmp2 rfl _ (b := w.heap.size + 1) (k := 18) (cs := Z) (Try.isAgg31 _) (Try.sizeOf31 _) rfl (load_block hyb hz18 (fun j v hv => by simpa using hv))) rfl ?_
    exact ⟨by rw [← HZ.out.1]; rfl, (HB.out.2.2.trans hf3).ofNew hyf fun k hk => .inr (by rw [hk]; omega)⟩
  | some e =>
    obtain ⟨g, q, vb, x⟩ := e
    have hmem : (g, q, vb, x) ∈ L := List.mem_of_getLast? hLe
    obtain ⟨l, r, hg, hv, hq⟩ := HIN.out _ hmem
    obtain ⟨n, hn⟩ : ∃ n, L.length = n + 1 := ⟨L.length - 1, by
      have : L.length ≠ 0 := fun h => by rw [List.length_eq_zero_iff.1 h] at hmem; cases hmem
      omega⟩
    have hgn : (ptrs L)[n]? = some (.pointer (some ⟨g, 0, none⟩)) := by
      have h1 : L[n]? = some (g, q, vb, x) := by rw [List.getLast?_eq_getElem?, hn] at hLe; exact hLe
      simp [ptrs, h1]
    rw [hn] at HPT hL129
    have hq0 : (0 : Int) ≤ (n : Int) := by omega
    have hq1 : (n : Int) < (n : Int) + 1 := by omega
    have hq2 : ¬ (n : Int) + 1 = 0 := by omega
    have HLE : Hid (lastP L = pfx q.b q.xs q.n ∧ lastV (.int .i64 0) L = x ∧ L.isEmpty = false) := by
      refine ⟨by rw [lastP, hLe], by rw [lastV, hLe], ?_⟩
      cases L with
      | nil => cases hmem
      | cons a b => rfl
    obtain ⟨K, hK, -, -, hKs, -, hK1⟩ := pfx_letter q.b q.xs q.n hq.1
    have hKk : K.size = k40 := by rw [HK31.out]; exact hKs
    have HC := Lib.hid (And.intro hK (And.intro hK1 hKs))
    have hclt := some_lt hg
    have hvlt := some_lt hv
    have HM : Hid (∀ w', (w'.heap[g]? = w.heap[g]? ∧ w'.heap[vb]? = w.heap[vb]?) → Sem.run PD (loadCellsFrom ⟨g, 0, none⟩ 0 k40 #[]) w' = .ok K w' ∧ w'.cell? ⟨g, 18, none⟩ = some (.pointer (some ⟨vb, 0, none⟩)) ∧ w'.cell? ⟨vb, 0, none⟩ = some x) := fun w' h => ⟨load_block (h.1.trans hg) hKk (fun j u hu => cellsOf_pfx j u (by rw [hK]; exact hu)), cell_of (h.1.trans hg) (cellsOf_at hq.1 _ l r).1, cell_of (h.2.trans hv) rfl⟩
    have HLT := Lib.hid (And.intro hclt hvlt)
    clear hmem hg hv hq hn hK hKs hK1 hclt hvlt hLe HIN hz18
    have HGN := Lib.hid hgn
    clear hgn
    go_wp2_with (first | (go_at_call 53; go_loud (refine (at_prog HP.out (HPT.out _ HB.out.2.2)).mono ?_; rintro e w3 ⟨ad, cp, rfl, hat, hf3⟩; obtain ⟨bb, bo, rfl, hcl⟩ := hat _ _ HGN.out; clear hat)) | fail)
    have HF : Hid (∀ w', Fr (fun k => k = w.heap.size + 1) w3 w' → Fr No w w' ∧ (w'.heap[g]? = w.heap[g]? ∧ w'.heap[vb]? = w.heap[vb]?)) := fun w' hf => by
      have h0 := HB.out.2.2.trans hf3
      have h1 : Fr No w w' := h0.ofNew hf fun k hk => .inr (by rw [hk]; omega)
      exact ⟨h1, h1.block g HLT.out.1 (fun h => h), h1.block vb HLT.out.2 (fun h => h)⟩
    have HRB := Lib.hid (hf3.keep HB.out.2.1)
    have HS : Hid (∀ w', Fr (fun k => k = w.heap.size + 1) w3 w' → Fr (fun k => k = w.heap.size + 1) w3 w' ∧ Sem.run PD (loadCellsFrom ⟨g, 0, none⟩ 0 k40 #[]) w' = .ok K w' ∧ w'.cell? ⟨g, 18, none⟩ = some (.pointer (some ⟨vb, 0, none⟩)) ∧ w'.cell? ⟨vb, 0, none⟩ = some x) := fun w' hf => ⟨hf, HM.out w' (HF.out w' hf).2⟩
    have f6 := HS.out _ (Fr.drew _ w3)
    obtain ⟨y, hst, hyb, hyf⟩ := store_all (P := PD) (w := w3.drew) K.toList (show w3.drew.heap[w.heap.size + 1]? = some (.cells Z 31 (0, 0)) from HRB.out) (by rw [Array.length_toList, hKk, hZk]) HC.out.2.1
    have f7 := HS.out y ((Fr.drew _ w3).trans hyf)
    go_region_held3 (fun w' => Fr (fun k => k = w.heap.size + 1) w3 w' ∧ Sem.run PD (loadCellsFrom ⟨g, 0, none⟩ 0 k40 #[]) w' = .ok K w' ∧ w'.cell? ⟨g, 18, none⟩ = some (.pointer (some ⟨vb, 0, none⟩)) ∧ w'.cell? ⟨vb, 0, none⟩ = some x) (assumption) (fail)
    go_wp2_with fail
    refine bodyPost_ret_by (results_agg_tmp2 rfl _ (b := w.heap.size + 1) (k := 18) (cs := K) (Try.isAgg31 _) (Try.sizeOf31 _) rfl (load_block hyb HC.out.2.2 (fun j v hv => by simpa using hv))) rfl ?_
    exact ⟨by rw [HLE.out.1, HLE.out.2.1, HLE.out.2.2, HC.out.1]; rfl, (HF.out y ((Fr.drew _ w3).trans hyf)).1⟩
end Go.Proofs.Ytnbohhiooigmbaa
