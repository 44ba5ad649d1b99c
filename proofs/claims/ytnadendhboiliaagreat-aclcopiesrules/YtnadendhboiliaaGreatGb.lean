/-
  CONTRACTS of the generators' ValidAddr and SomeAddr, over this seat's translation: what each call returns.
  Conditions: the argument is an address.
-/
import Derived.Test.YtnadendhboiliaaGreatGa
import Derived.Test.YtnadendhboiliaaGreatMb
namespace Go.Proofs.YtnadendhboiliaaGreat
open Go.ChangeShapes Go.WideShapes Go.ChangeAt Go.RowKit
set_option linter.unusedVariables false

theorem store_at {P : Program} {w : World} {B o : Nat} {cs : Array Value} {t : TypeId} (xs : List Value) (h : w.heap[B]? = some (.cells cs t (0, 0))) (hl : o + xs.length ≤ cs.size) (h1 : ∀ u ∈ xs, u.oneCell' = true) :
    ∃ y, Sem.run P (storeCells ⟨B, o, none⟩ xs 0) w = .ok () y ∧ y.heap[B]? = some (.cells (cs.toList.take o ++ xs ++ cs.toList.drop (o + xs.length)).toArray t (0, 0)) ∧ Fr (fun k => k = B) w y := by
  have hst := run_storeCells_at P B o t xs 0 cs w h (by omega) h1
  refine ⟨_, hst, ?_, Fr.setRow _ _ _ _ rfl⟩
  rw [setRow_heap w B _ _ _ _ h]
  rfl

theorem adr_put (b : Bool) (xs ys : List Nat) (hx : Bytes xs) (hy : Bytes ys) : ((adr b xs).toArray.toList.take 1 ++ nums .u8 ys ++ (adr b xs).toArray.toList.drop (1 + (nums .u8 ys).length)).toArray = (adr b ys).toArray := by
  have h : ((adr b xs).drop (1 + (nums .u8 ys).length)) = [] := List.drop_of_length_le (by rw [adr_length, nums_length, hx.1, hy.1]; omega)
  rw [List.toList_toArray, h, List.append_nil]
  rfl

set_option maxHeartbeats 4000000 in
set_option maxRecDepth 100000 in
theorem vaddr_gen (b : Bool) (xs : List Nat) (hx : Bytes xs) (w : World) : Calls Tryz.prog 23 #[.agg (adr b xs).toArray] w (GenA w) := by
  obtain ⟨Y, hY⟩ : ∃ Y : Array Value, (adr false zeros).toArray = Y := ⟨_, rfl⟩
  have v30 := zero25
  rw [hY] at v30
  have hYs : Y.size = 17 := by rw [← hY]; rfl
  cases b with
  | true =>
    obtain ⟨A, hA, h0, hsz, -⟩ := adr_letter true xs hx
    rw [hA]
    obtain ⟨b1, b2, hF⟩ := alloc2 w (.cells A 25) (.cells Y 25)
    have c0 : ((w.alloc (.cells A 25)).alloc (.cells Y 25)).cell? ⟨w.heap.size, 0, none⟩ = some (.bool true) := by rw [cell_of_row _ _ _ _ _ _ b1]; exact h0
    obtain ⟨y, hst, hyb, hyf⟩ := store_all (P := PD) A.toList b2 (by rw [Array.length_toList, hsz, hYs]) (by rw [← hA]; exact adr_one _ _)
    have HY : Hid (y.heap[w.heap.size + 1]? = some (.cells A 25 (0, 0)) ∧ Fr No w y) := ⟨by simpa using hyb, hF.ofNew hyf fun k hk => .inr (by omega)⟩
    have HE := Lib.hid (And.intro hx (And.intro hA hsz))
    have hl1 : Sem.run Tryz.prog (loadCellsFrom ⟨w.heap.size, 0, none⟩ 0 17 #[]) ((w.alloc (.cells A 25)).alloc (.cells Y 25)) = .ok A ((w.alloc (.cells A 25)).alloc (.cells Y 25)) := load_block b1 hsz (fun j v hv => by simpa using hv)
    clear hY hA hyb hyf b1 b2 hF hx
    go_enter Tryz.func23, Tryz.ntmps23
    have t3 := Tryz.underlying3
    have u3 := Tryz.runUnderlying3
    have g3 := Tryz.isAgg3
    have z3 := Tryz.sizeOf3
    have t4 := Tryz.underlying4
    have u4 := Tryz.runUnderlying4
    have g4 := Tryz.isAgg4
    have z4 := Tryz.sizeOf4
    have t5 := Tryz.underlying5
    have u5 := Tryz.runUnderlying5
    have g5 := Tryz.isAgg5
    have z5 := Tryz.sizeOf5
    have t23 := Tryz.underlying23
    have u23 := Tryz.runUnderlying23
    have g23 := Tryz.isAgg23
    have z23 := Tryz.sizeOf23
    have t25 := Tryz.underlying25
    have u25 := Tryz.runUnderlying25
    have g25 := Tryz.isAgg25
    have z25 := Tryz.sizeOf25
    have mixed : Tryz.prog.follows .mixedOrders = true := by kernel_rfl
    obtain ⟨k30, hk30⟩ : ∃ k, k = 17 := ⟨_, rfl⟩
    rw [← hk30] at z25
    have nk30 : ¬ k30 = 0 := by omega
    have HK25 := Lib.hid hk30
    have hP : Tryz.prog = PD := rfl
    rw [hP] at t3 u3 g3 z3 t4 u4 g4 z4 t5 u5 g5 z5 t23 u23 g23 z23 t25 u25 g25 z25 mixed v30 hl1 ⊢
    have HP := Lib.hid hP.symm
    clear hP hk30
    have hAk : A.size = k30 := by rw [HK25.out]; exact hsz
    have hYk : Y.size = k30 := by rw [HK25.out]; exact hYs
    rw [← HK25.out] at hl1
    clear hsz hYs
    go_wp2_with fail
    refine bodyPost_ret_by (results_agg rfl _ (b := w.heap.size + 1) (k := 17) (cs := A) (Tryz.isAgg25 _) (Tryz.sizeOf25 _) rfl (load_block HY.out.1 HE.out.2.2 (fun j v hv => by simpa using hv))) rfl ?_
    exact ⟨true, xs, HE.out.1, rfl, by rw [HE.out.2.1], HY.out.2⟩
  | false =>
    obtain ⟨x0, x1, x2, x3, g0, g1, g2, g3, hb4, -⟩ := valid_four hx
    obtain ⟨X, hX⟩ : ∃ X : Array Value, (nums .u8 zeros).toArray = X := ⟨_, rfl⟩
    have v28 := zero23
    rw [hX] at v28
    have hXs : X.size = 16 := by rw [← hX]; rfl
    have hXne : ¬ X = #[] := by intro e; rw [e] at hXs; cases hXs
    obtain ⟨A, hA, h0, hsz, hj⟩ := adr_letter false xs hx
    rw [hA]
    obtain ⟨B, hB⟩ : ∃ B : Array Value, (nums .u8 (v4Of x0 x1 x2 x3)).toArray = B := ⟨_, rfl⟩
    have hBs : B.size = 16 := by rw [← hB]; rfl
    have f1 : (((X.setIfInBounds 0 (.int .u8 x0)).setIfInBounds 1 (.int .u8 x1)).setIfInBounds 2 (.int .u8 x2)).setIfInBounds 3 (.int .u8 x3) = B := by rw [← hX, ← hB]; rfl
    obtain ⟨E, hE⟩ : ∃ E : Array Value, (adr false (v4Of x0 x1 x2 x3)).toArray = E := ⟨_, rfl⟩
    have hEs : E.size = 17 := by rw [← hE]; rfl
    obtain ⟨b1, b2, hF⟩ := alloc2 w (.cells A 25) (.cells Y 25)
    have c0 : ((w.alloc (.cells A 25)).alloc (.cells Y 25)).cell? ⟨w.heap.size, 0, none⟩ = some (.bool false) := by rw [cell_of_row _ _ _ _ _ _ b1]; exact h0
    have c1 : ((w.alloc (.cells A 25)).alloc (.cells Y 25)).cell? ⟨w.heap.size, 1, none⟩ = some (.int .u8 x0) := by rw [cell_of_row _ _ _ _ _ _ b1]; exact hj 0 x0 g0
    have c2 : ((w.alloc (.cells A 25)).alloc (.cells Y 25)).cell? ⟨w.heap.size, 2, none⟩ = some (.int .u8 x1) := by rw [cell_of_row _ _ _ _ _ _ b1]; exact hj 1 x1 g1
    have c3 : ((w.alloc (.cells A 25)).alloc (.cells Y 25)).cell? ⟨w.heap.size, 3, none⟩ = some (.int .u8 x2) := by rw [cell_of_row _ _ _ _ _ _ b1]; exact hj 2 x2 g2
    have c4 : ((w.alloc (.cells A 25)).alloc (.cells Y 25)).cell? ⟨w.heap.size, 4, none⟩ = some (.int .u8 x3) := by rw [cell_of_row _ _ _ _ _ _ b1]; exact hj 3 x3 g3
    obtain ⟨y1, hst1, hyb1, hyf1⟩ := store_at (P := PD) (o := 1) B.toList b1 (by rw [Array.length_toList, hsz, hBs]; decide) (by rw [← hB]; exact nums_one _ _)
    have hb1' : y1.heap[w.heap.size]? = some (.cells E 25 (0, 0)) := by
      have h := adr_put false xs (v4Of x0 x1 x2 x3) hx hb4
      rw [hA, hE] at h
      rw [← hB, List.toList_toArray, h] at hyb1
      exact hyb1
    have hb2' : y1.heap[w.heap.size + 1]? = some (.cells Y 25 (0, 0)) := (hyf1.block _ (Array.getElem?_eq_some_iff.1 b2).1 (by omega)).trans b2
    obtain ⟨y, hst, hyb, hyf⟩ := store_all (P := PD) E.toList hb2' (by rw [Array.length_toList, hEs, hYs]) (by rw [← hE]; exact adr_one _ _)
    have HY : Hid (y.heap[w.heap.size + 1]? = some (.cells E 25 (0, 0)) ∧ Fr No w y) := ⟨by simpa using hyb, (hF.ofNew hyf1 fun k hk => .inr (by omega)).ofNew hyf fun k hk => .inr (by omega)⟩
    have HE := Lib.hid (And.intro hb4 (And.intro hE hEs))
    have hl1 : Sem.run Tryz.prog (loadCellsFrom ⟨w.heap.size, 0, none⟩ 0 17 #[]) y1 = .ok E y1 := load_block hb1' hEs (fun j v hv => by simpa using hv)
    clear hY hA hyb hyf b1 b2 hF hx hX hB hE hj h0 g0 g1 g2 g3 hb4 hyb1 hyf1 hb1' hb2'
    go_enter Tryz.func23, Tryz.ntmps23
    have t3 := Tryz.underlying3
    have u3 := Tryz.runUnderlying3
    have g3 := Tryz.isAgg3
    have z3 := Tryz.sizeOf3
    have t4 := Tryz.underlying4
    have u4 := Tryz.runUnderlying4
    have g4 := Tryz.isAgg4
    have z4 := Tryz.sizeOf4
    have t5 := Tryz.underlying5
    have u5 := Tryz.runUnderlying5
    have g5 := Tryz.isAgg5
    have z5 := Tryz.sizeOf5
    have t23 := Tryz.underlying23
    have u23 := Tryz.runUnderlying23
    have g23 := Tryz.isAgg23
    have z23 := Tryz.sizeOf23
    have t25 := Tryz.underlying25
    have u25 := Tryz.runUnderlying25
    have g25 := Tryz.isAgg25
    have z25 := Tryz.sizeOf25
    have mixed : Tryz.prog.follows .mixedOrders = true := by kernel_rfl
    obtain ⟨k28, hk28⟩ : ∃ k, k = 16 := ⟨_, rfl⟩
    rw [← hk28] at z23
    have nk28 : ¬ k28 = 0 := by omega
    have HK23 := Lib.hid hk28
    obtain ⟨k30, hk30⟩ : ∃ k, k = 17 := ⟨_, rfl⟩
    rw [← hk30] at z25
    have nk30 : ¬ k30 = 0 := by omega
    have HK25 := Lib.hid hk30
    have hP : Tryz.prog = PD := rfl
    rw [hP] at t3 u3 g3 z3 t4 u4 g4 z4 t5 u5 g5 z5 t23 u23 g23 z23 t25 u25 g25 z25 mixed v28 v30 hl1 ⊢
    have HP := Lib.hid hP.symm
    clear hP hk28 hk30
    have hEk : E.size = k30 := by rw [HK25.out]; exact hEs
    have hYk : Y.size = k30 := by rw [HK25.out]; exact hYs
    have hXk : X.size = k28 := by rw [HK23.out]; exact hXs
    have hBk : B.size = k28 := by rw [HK23.out]; exact hBs
    have i0 : 0 < k28 := by have := HK23.out; omega
    have i1 : 1 < k28 := by have := HK23.out; omega
    have i2 : 2 < k28 := by have := HK23.out; omega
    have i3 : 3 < k28 := by have := HK23.out; omega
    rw [← HK25.out] at hl1
    clear hsz hYs hEs hXs hBs
    go_wp2_with fail
    refine bodyPost_ret_by (results_agg rfl _ (b := w.heap.size + 1) (k := 17) (cs := E) (Tryz.isAgg25 _) (Tryz.sizeOf25 _) rfl (load_block HY.out.1 HE.out.2.2 (fun j v hv => by simpa using hv))) rfl ?_
    exact ⟨false, _, HE.out.1, rfl, by rw [HE.out.2.1], HY.out.2⟩

/-- What an answer of a generator of addresses, valid or not, is. -/
def GenB (w : World) (e : Ending) (w' : World) : Prop := ∃ c ys, Bytes ys ∧ e = .returned (.agg (adr c ys).toArray) ∧ Fr No w w'

set_option maxHeartbeats 4000000 in
set_option maxRecDepth 100000 in
theorem saddr_gen (b : Bool) (xs : List Nat) (hx : Bytes xs) (w : World) : Calls Tryz.prog 9 #[.agg (adr b xs).toArray] w (GenB w) := by
  obtain ⟨Y, hY⟩ : ∃ Y : Array Value, (adr false zeros).toArray = Y := ⟨_, rfl⟩
  have v30 := zero25
  rw [hY] at v30
  have hYs : Y.size = 17 := by rw [← hY]; rfl
  have HVA : Hid (∀ w', Calls Tryz.prog 23 #[.agg (adr b xs).toArray] w' (GenA w')) := fun w' => vaddr_gen b xs hx w'
  obtain ⟨x0, hx0⟩ : ∃ x, xs[0]? = some x := ⟨_, List.getElem?_eq_getElem (by rw [hx.1]; decide)⟩
  obtain ⟨x1, hx1⟩ : ∃ x, xs[1]? = some x := ⟨_, List.getElem?_eq_getElem (by rw [hx.1]; decide)⟩
  obtain ⟨x7, hx7⟩ : ∃ x, xs[7]? = some x := ⟨_, List.getElem?_eq_getElem (by rw [hx.1]; decide)⟩
  have hx7b : x7 < 256 := hx.2 x7 (List.mem_of_getElem? hx7)
  have hx0b : x0 < 256 := hx.2 x0 (List.mem_of_getElem? hx0)
  have hx1b : x1 < 256 := hx.2 x1 (List.mem_of_getElem? hx1)
  obtain ⟨A, hA, h0, hsz, hj⟩ := adr_letter b xs hx
  rw [hA] at HVA ⊢
  obtain ⟨b1, b2, hF⟩ := alloc2 w (.cells A 25) (.cells Y 25)
  have c0 : ((w.alloc (.cells A 25)).alloc (.cells Y 25)).cell? ⟨w.heap.size, 1, none⟩ = some (.int .u8 x0) := by rw [cell_of_row _ _ _ _ _ _ b1]; exact hj 0 x0 hx0
  have c1 : ((w.alloc (.cells A 25)).alloc (.cells Y 25)).cell? ⟨w.heap.size, 2, none⟩ = some (.int .u8 x1) := by rw [cell_of_row _ _ _ _ _ _ b1]; exact hj 1 x1 hx1
  have c7 : ((w.alloc (.cells A 25)).alloc (.cells Y 25)).cell? ⟨w.heap.size, 8, none⟩ = some (.int .u8 x7) := by rw [cell_of_row _ _ _ _ _ _ b1]; exact hj 7 x7 hx7
  have hl1 : Sem.run Tryz.prog (loadCellsFrom ⟨w.heap.size, 0, none⟩ 0 17 #[]) ((w.alloc (.cells A 25)).alloc (.cells Y 25)) = .ok A ((w.alloc (.cells A 25)).alloc (.cells Y 25)) := load_block b1 hsz (fun j v hv => by simpa using hv)
  have HB := Lib.hid (And.intro b2 (And.intro hF (And.intro hA (And.intro hx (And.intro hsz hYs)))))
  have HST : Hid (∀ w' c ys, Bytes ys → Fr No ((w.alloc (.cells A 25)).alloc (.cells Y 25)) w' → ∃ y, Sem.run PD (storeCells ⟨w.heap.size + 1, 0, none⟩ (adr c ys).toArray.toList 0) w' = .ok () y ∧ y.heap[w.heap.size + 1]? = some (.cells (adr c ys).toArray 25 (0, 0)) ∧ Fr No w y) := fun w' c ys hys hf => by
    obtain ⟨y, hst, hyb, hyf⟩ := store_all (P := PD) (adr c ys).toArray.toList (hf.keep b2) (by rw [Array.length_toList, List.size_toArray, adr_length, hys.1, hYs]) (by intro u hu; exact adr_one _ _ u (by simpa using hu))
    exact ⟨y, hst, by simpa using hyb, (hF.trans hf).ofNew hyf fun k hk => .inr (by omega)⟩
  clear b1 b2 hF hY hA h0 hj hx0 hx1 hx7 hx
  have hm5 : x7 % 5 = 0 ∨ x7 % 5 = 1 ∨ (x7 % 5 ≠ 0 ∧ x7 % 5 ≠ 1) := by omega
  obtain ⟨m, hm⟩ : ∃ m, x7 % 5 = m := ⟨_, rfl⟩
  have hmi : (x7 : Int).tmod 5 = (m : Int) := by rw [← hm]; rfl
  rw [hm] at hm5
  rcases hm5 with rfl | rfl | ⟨hm0, hm1⟩
  · have HSTA : Hid (∃ y, Sem.run PD (storeCells ⟨w.heap.size + 1, 0, none⟩ A.toList 0) ((w.alloc (.cells A 25)).alloc (.cells Y 25)) = .ok () y ∧ y.heap[w.heap.size + 1]? = some (.cells A 25 (0, 0)) ∧ Fr No w y) := by
      have h := HST.out _ b xs HB.out.2.2.2.1 (Fr.refl _ _)
      rw [HB.out.2.2.1] at h
      exact h
    obtain ⟨y, hst, hyb, hyf⟩ := HSTA.out
    have HY := Lib.hid (And.intro hyb hyf)
    clear hyb hyf
    go_enter Tryz.func9, Tryz.ntmps9
    have t3 := Tryz.underlying3
    have u3 := Tryz.runUnderlying3
    have g3 := Tryz.isAgg3
    have z3 := Tryz.sizeOf3
    have t4 := Tryz.underlying4
    have u4 := Tryz.runUnderlying4
    have g4 := Tryz.isAgg4
    have z4 := Tryz.sizeOf4
    have t5 := Tryz.underlying5
    have u5 := Tryz.runUnderlying5
    have g5 := Tryz.isAgg5
    have z5 := Tryz.sizeOf5
    have t23 := Tryz.underlying23
    have u23 := Tryz.runUnderlying23
    have g23 := Tryz.isAgg23
    have z23 := Tryz.sizeOf23
    have t25 := Tryz.underlying25
    have u25 := Tryz.runUnderlying25
    have g25 := Tryz.isAgg25
    have z25 := Tryz.sizeOf25
    have t57 := Tryz.underlying57
    have u57 := Tryz.runUnderlying57
    have g57 := Tryz.isAgg57
    have z57 := Tryz.sizeOf57
    have c23 := Tryz.call23
    have c24 := Tryz.call24
    have mixed : Tryz.prog.follows .mixedOrders = true := by kernel_rfl
    obtain ⟨k30, hk30⟩ : ∃ k, k = 17 := ⟨_, rfl⟩
    rw [← hk30] at z25
    have nk30 : ¬ k30 = 0 := by omega
    have HK25 := Lib.hid hk30
    have hP : Tryz.prog = PD := rfl
    rw [hP] at t3 u3 g3 z3 t4 u4 g4 z4 t5 u5 g5 z5 t23 u23 g23 z23 t25 u25 g25 z25 t57 u57 g57 z57 c23 c24 mixed v30 hl1 ⊢
    have HP := Lib.hid hP.symm
    clear hP hk30
    have hAk : A.size = k30 := by rw [HK25.out]; exact hsz
    have hYk : Y.size = k30 := by rw [HK25.out]; exact hYs
    rw [← HK25.out] at hl1
    clear hsz hYs
    go_wp2_with fail
    refine bodyPost_ret_by (results_agg rfl _ (b := w.heap.size + 1) (k := 17) (cs := A) (Tryz.isAgg25 _) (Tryz.sizeOf25 _) rfl (load_block HY.out.1 HB.out.2.2.2.2.1 (fun j v hv => by simpa using hv))) rfl ?_
    exact ⟨b, xs, HB.out.2.2.2.1, by rw [HB.out.2.2.1], HY.out.2⟩
  · clear c0 c1
    go_enter Tryz.func9, Tryz.ntmps9
    have t3 := Tryz.underlying3
    have u3 := Tryz.runUnderlying3
    have g3 := Tryz.isAgg3
    have z3 := Tryz.sizeOf3
    have t4 := Tryz.underlying4
    have u4 := Tryz.runUnderlying4
    have g4 := Tryz.isAgg4
    have z4 := Tryz.sizeOf4
    have t5 := Tryz.underlying5
    have u5 := Tryz.runUnderlying5
    have g5 := Tryz.isAgg5
    have z5 := Tryz.sizeOf5
    have t23 := Tryz.underlying23
    have u23 := Tryz.runUnderlying23
    have g23 := Tryz.isAgg23
    have z23 := Tryz.sizeOf23
    have t25 := Tryz.underlying25
    have u25 := Tryz.runUnderlying25
    have g25 := Tryz.isAgg25
    have z25 := Tryz.sizeOf25
    have t57 := Tryz.underlying57
    have u57 := Tryz.runUnderlying57
    have g57 := Tryz.isAgg57
    have z57 := Tryz.sizeOf57
    have c23 := Tryz.call23
    have c24 := Tryz.call24
    have mixed : Tryz.prog.follows .mixedOrders = true := by kernel_rfl
    obtain ⟨k30, hk30⟩ : ∃ k, k = 17 := ⟨_, rfl⟩
    rw [← hk30] at z25
    have nk30 : ¬ k30 = 0 := by omega
    have HK25 := Lib.hid hk30
    have hP : Tryz.prog = PD := rfl
    rw [hP] at t3 u3 g3 z3 t4 u4 g4 z4 t5 u5 g5 z5 t23 u23 g23 z23 t25 u25 g25 z25 t57 u57 g57 z57 c23 c24 mixed v30 hl1 ⊢
    have HP := Lib.hid hP.symm
    clear hP hk30
    have hAk : A.size = k30 := by rw [HK25.out]; exact hsz
    have hYk : Y.size = k30 := by rw [HK25.out]; exact hYs
    rw [← HK25.out] at hl1
    clear hsz hYs
    go_wp2_with (first | (go_at_call 23; refine (at_prog HP.out (HVA.out _)).mono ?_; rintro e w3 ⟨c, ys, hys, -, rfl, hf3⟩; obtain ⟨y, hst, hyb, hyf⟩ := HST.out w3 c ys hys hf3; have HE : Hid ((adr c ys).toArray.size = 17) := (by show _ = _; rw [List.size_toArray, adr_length, hys.1]); have hEk : (adr c ys).toArray.size = k30 := HE.out.trans HK25.out.symm; have HY := Lib.hid (And.intro hyb (And.intro hyf hys)); clear hyb hyf hys; generalize hEE : (adr c ys).toArray = E at hst HE hEk HY ⊢; have HEE := Lib.hid hEE; clear hEE) | fail)
    refine bodyPost_ret_by (results_agg rfl _ (b := w.heap.size + 1) (k := 17) (cs := E) (Tryz.isAgg25 _) (Tryz.sizeOf25 _) rfl (load_block HY.out.1 HE.out (fun j v hv => by simpa using hv))) rfl ?_
    exact ⟨c, ys, HY.out.2.2, by rw [HEE.out], HY.out.2.1⟩
  · have hq0 : ((m : Int) == 0) = false := by simp; omega
    have hq1 : ((m : Int) == 1) = false := by simp; omega
    clear hm0 hm1 hm
    go_enter Tryz.func9, Tryz.ntmps9
    have t3 := Tryz.underlying3
    have u3 := Tryz.runUnderlying3
    have g3 := Tryz.isAgg3
    have z3 := Tryz.sizeOf3
    have t4 := Tryz.underlying4
    have u4 := Tryz.runUnderlying4
    have g4 := Tryz.isAgg4
    have z4 := Tryz.sizeOf4
    have t5 := Tryz.underlying5
    have u5 := Tryz.runUnderlying5
    have g5 := Tryz.isAgg5
    have z5 := Tryz.sizeOf5
    have t23 := Tryz.underlying23
    have u23 := Tryz.runUnderlying23
    have g23 := Tryz.isAgg23
    have z23 := Tryz.sizeOf23
    have t25 := Tryz.underlying25
    have u25 := Tryz.runUnderlying25
    have g25 := Tryz.isAgg25
    have z25 := Tryz.sizeOf25
    have t57 := Tryz.underlying57
    have u57 := Tryz.runUnderlying57
    have g57 := Tryz.isAgg57
    have z57 := Tryz.sizeOf57
    have c23 := Tryz.call23
    have c24 := Tryz.call24
    have mixed : Tryz.prog.follows .mixedOrders = true := by kernel_rfl
    obtain ⟨k30, hk30⟩ : ∃ k, k = 17 := ⟨_, rfl⟩
    rw [← hk30] at z25
    have nk30 : ¬ k30 = 0 := by omega
    have HK25 := Lib.hid hk30
    have hP : Tryz.prog = PD := rfl
    rw [hP] at t3 u3 g3 z3 t4 u4 g4 z4 t5 u5 g5 z5 t23 u23 g23 z23 t25 u25 g25 z25 t57 u57 g57 z57 c23 c24 mixed v30 hl1 ⊢
    have HP := Lib.hid hP.symm
    clear hP hk30
    have hAk : A.size = k30 := by rw [HK25.out]; exact hsz
    have hYk : Y.size = k30 := by rw [HK25.out]; exact hYs
    rw [← HK25.out] at hl1
    clear hsz hYs
    go_wp2_with (first | (go_at_call 24; refine (at_prog HP.out (addr_gen _ _)).mono ?_; rintro e w3 ⟨c, ys, hys, -, rfl, hf3⟩; obtain ⟨y, hst, hyb, hyf⟩ := HST.out w3 c ys hys hf3; have HE : Hid ((adr c ys).toArray.size = 17) := (by show _ = _; rw [List.size_toArray, adr_length, hys.1]); have hEk : (adr c ys).toArray.size = k30 := HE.out.trans HK25.out.symm; have HY := Lib.hid (And.intro hyb (And.intro hyf hys)); clear hyb hyf hys; generalize hEE : (adr c ys).toArray = E at hst HE hEk HY ⊢; have HEE := Lib.hid hEE; clear hEE) | fail)
    refine bodyPost_ret_by (results_agg rfl _ (b := w.heap.size + 1) (k := 17) (cs := E) (Tryz.isAgg25 _) (Tryz.sizeOf25 _) rfl (load_block HY.out.1 HE.out (fun j v hv => by simpa using hv))) rfl ?_
    exact ⟨c, ys, HY.out.2.2, by rw [HEE.out], HY.out.2.1⟩
end Go.Proofs.YtnadendhboiliaaGreat
