/-
  CONTRACTS of the reference's Valid and Unmap and of the generator's ValidAddr, over this seat's translation: what each call returns.
  Conditions: the argument is an address.
  CONTRACTS of the reference's Unmap and of the generator's ValidAddr, over this seat's translation: what each call returns.
  Conditions: the argument is an address.
-/
import Derived.Test.YtmhnailcmlomiaaGreatDoorU
import Derived.Test.YtmhnailcmlomiaaGreatDoorW
import Derived.Test.YtmhnailcmlomiaaGreatDoorGr
namespace Go.Proofs.YtmhnailcmlomiaaGreatDoor
open Go.ChangeShapes Go.WideShapes Go.ChangeAt Go.RowKit
set_option linter.unusedVariables false

theorem valid_yes {xs : List Nat} (hx : Bytes xs) (h : ∀ j, 4 ≤ j → j < 16 → xs[j]? = some 0) : validA false xs = true := by
  unfold validA
  rw [Bool.false_or, List.all_eq_true]
  intro x hm
  obtain ⟨k, hk, hke⟩ := List.mem_iff_getElem.1 hm
  rw [List.length_drop, hx.1] at hk
  have h1 := h (4 + k) (by omega) (by omega)
  rw [List.getElem_drop] at hke
  rw [List.getElem?_eq_getElem (by rw [hx.1]; omega), hke] at h1
  cases h1; rfl
theorem valid_no {xs : List Nat} {i x : Nat} (hi : 4 ≤ i) (h : xs[i]? = some x) (h0 : x ≠ 0) : validA false xs = false := by
  cases hv : validA false xs with
  | false => rfl
  | true =>
    unfold validA at hv
    rw [Bool.false_or, List.all_eq_true] at hv
    have h1 : x ∈ xs.drop 4 := by
      refine List.mem_of_getElem? (i := i - 4) ?_
      rw [List.getElem?_drop, show 4 + (i - 4) = i by omega, h]
    have := hv x h1
    simp at this
    exact absurd this h0

set_option maxHeartbeats 2000000 in
set_option maxRecDepth 100000 in
theorem valid_ref (b : Bool) (xs : List Nat) (hx : Bytes xs) (w : World) :
    Calls Tryz.prog 46 #[.agg (adr b xs).toArray] w fun e w' => e = .returned (.bool (validA b xs)) ∧ Fr No w w' := by
  obtain ⟨A, hA, h0, hsz, hj⟩ := adr_letter b xs hx
  rw [hA]
  have hbk := heap_alloc_new w (.cells A 30)
  have HF := Lib.hid (Fr.alloc No w (.cells A 30))
  have k0 : (w.alloc (.cells A 30)).cell? ⟨w.heap.size, 0, none⟩ = some (.bool b) := by rw [cell_of_row _ _ _ _ _ _ hbk]; exact h0
  have HJ : Hid (∀ i x : Nat, xs[i]? = some x → (w.alloc (.cells A 30)).cell? ⟨w.heap.size, 1 + i, none⟩ = some (.int .u8 x)) := fun i x h => by rw [cell_of_row _ _ _ _ _ _ hbk]; exact hj i x h
  clear hj hA h0 hsz hbk
  cases b
  · go_enter Tryz.func46, Tryz.ntmps46
    go_wp2_with fail
    generalize w.alloc (.cells A 30) = w1 at k0 HF HJ ⊢
    generalize w.heap.size = n at k0 HJ ⊢
    go_loopg [3] 13 (fun g s wr => ∃ i : Nat, s = .int .i64 i ∧ 4 ≤ i ∧ i ≤ 16 ∧ 16 - i < g ∧ Hid (wr = w1 ∧ ∀ j, 4 ≤ j → j < i → xs[j]? = some 0))
    case atStart => exact ⟨4, by go_num, by omega, by omega, by omega, rfl, fun j h1 h2 => by omega⟩
    case round =>
      obtain ⟨i, rfl, hi4, hi16, hig, HR⟩ := hrel
      obtain ⟨hw, hall⟩ := HR.out
      have hw' := hw.symm
      subst hw'
      clear hw HR
      by_cases hi : i = 16
      · subst hi
        have HV := Lib.hid (valid_yes hx hall)
        clear hall
        go_wp2_with fail
        go_ret
        exact ⟨by rw [HV.out]; rfl, HF.out⟩
      · have q2 : (i : Int) < 16 := by omega
        have q1 : (0 : Int) ≤ (i : Int) := by omega
        obtain ⟨x, h1, -, l1⟩ := get_or hx i (by omega)
        have c1 := HJ.out i x h1
        by_cases hx0 : x = 0
        · subst hx0
          have c2 : w1.cell? ⟨n, 1 + i, none⟩ = some (.int .u8 0) := c1
          have HA : Hid (∀ j, 4 ≤ j → j < i + 1 → xs[j]? = some 0) := fun j hj1 hj2 => by
            by_cases hji : j = i
            · rw [hji]; exact h1
            · exact hall j hj1 (by omega)
          clear hall h1 c1
          go_wp2_with fail
          go_roundg (16 - i)
          case measure => exact hig
          case rel => exact ⟨i + 1, by go_num, by omega, by omega, by omega, rfl, HA.out⟩
        · have p1 : ¬ (x : Int) = 0 := by omega
          have HV := Lib.hid (valid_no hi4 h1 hx0)
          clear hall h1 hx0
          go_wp2_with fail
          go_ret
          exact ⟨by rw [HV.out]; rfl, HF.out⟩
  · go_enter Tryz.func46, Tryz.ntmps46
    go_wp2_with fail
    generalize w.alloc (.cells A 30) = w1 at k0 HF ⊢
    generalize w.heap.size = n at k0 ⊢
    go_loopg [3] 2 (fun g s wr => s = .int .i64 4 ∧ 0 < g ∧ wr = w1)
    case atStart => exact ⟨by go_num, by omega, rfl⟩
    case round =>
      obtain ⟨rfl, hg, rfl⟩ := hrel
      go_wp2_with fail
      go_ret
      exact ⟨rfl, HF.out⟩

theorem mapped_no {b : Bool} {xs : List Nat} {i x : Nat} (hi : i < 10) (h : xs[i]? = some x) (h0 : x ≠ 0) : isMapped b xs = false := by
  have : ¬ xs.take 12 = mapped := by
    intro e
    have h1 : (xs.take 12)[i]? = some x := by rw [List.getElem?_take, if_pos (by omega), h]
    rw [e] at h1
    have : i = 0 ∨ i = 1 ∨ i = 2 ∨ i = 3 ∨ i = 4 ∨ i = 5 ∨ i = 6 ∨ i = 7 ∨ i = 8 ∨ i = 9 := by omega
    rcases this with rfl | rfl | rfl | rfl | rfl | rfl | rfl | rfl | rfl | rfl <;> (cases h1; exact h0 rfl)
  simp [isMapped, this]
theorem mapped_no2 {b : Bool} {xs : List Nat} {i x : Nat} (hi : i = 10 ∨ i = 11) (h : xs[i]? = some x) (h0 : x ≠ 255) : isMapped b xs = false := by
  have : ¬ xs.take 12 = mapped := by
    intro e
    have h1 : (xs.take 12)[i]? = some x := by rw [List.getElem?_take, if_pos (by omega), h]
    rw [e] at h1
    rcases hi with rfl | rfl <;> (cases h1; exact h0 rfl)
  simp [isMapped, this]
theorem mapped_yes {xs : List Nat} (hx : Bytes xs) (h : ∀ j, j < 10 → xs[j]? = some 0) (h10 : xs[10]? = some 255) (h11 : xs[11]? = some 255) : isMapped true xs = true := by
  obtain ⟨hl, hb⟩ := hx
  match xs, hl with
  | [x0, x1, x2, x3, x4, x5, x6, x7, x8, x9, x10, x11, x12, x13, x14, x15], _ =>
    have e0 := h 0 (by omega); have e1 := h 1 (by omega); have e2 := h 2 (by omega); have e3 := h 3 (by omega); have e4 := h 4 (by omega)
    have e5 := h 5 (by omega); have e6 := h 6 (by omega); have e7 := h 7 (by omega); have e8 := h 8 (by omega); have e9 := h 9 (by omega)
    simp at e0 e1 e2 e3 e4 e5 e6 e7 e8 e9 h10 h11
    simp [isMapped, mapped, e0, e1, e2, e3, e4, e5, e6, e7, e8, e9, h10, h11]
end Go.Proofs.YtmhnailcmlomiaaGreatDoor
namespace Go.Proofs.YtmhnailcmlomiaaGreatDoor
open Go.ChangeShapes Go.WideShapes Go.ChangeAt Go.RowKit
set_option linter.unusedVariables false

/-- What ValidAddr gives. -/
def genX (b : Bool) (xs : List Nat) : List Nat := if b then xs else v4Of (xs.getD 0 0) (xs.getD 1 0) (xs.getD 2 0) (xs.getD 3 0)
theorem gen_bytes {b : Bool} {xs : List Nat} (hx : Bytes xs) : Bytes (genX b xs) := by
  unfold genX
  split
  · exact hx
  · have h : ∀ i, xs.getD i 0 < 256 := fun i => by
      rw [List.getD]
      cases hi : xs[i]? with
      | none => simp
      | some x => exact hx.2 x (List.mem_of_getElem? hi)
    exact v4_bytes (h _) (h _) (h _) (h _)
theorem gen_valid (b : Bool) (xs : List Nat) : validA b (genX b xs) = true := by
  cases b
  · rfl
  · rfl

theorem store_tail {P : Program} {w : World} {B : Nat} {v : Value} {cs : List Value} {t : TypeId} (xs : List Value) (h : w.heap[B]? = some (.cells (v :: cs).toArray t (0, 0))) (hl : xs.length = cs.length) (h1 : ∀ u ∈ xs, u.oneCell' = true) :
    ∃ y, Sem.run P (storeCells ⟨B, 1, none⟩ xs 0) w = .ok () y ∧ y.heap[B]? = some (.cells (v :: xs).toArray t (0, 0)) ∧ Fr (fun k => k = B) w y := by
  have hst := run_storeCells_at P B 1 t xs 0 (v :: cs).toArray w h (by simp; omega) h1
  refine ⟨_, hst, ?_, Fr.setRow _ _ _ _ rfl⟩
  have e : ((v :: cs).toArray.toList.take (1 + 0) ++ xs ++ (v :: cs).toArray.toList.drop (1 + 0 + xs.length)).toArray = (v :: xs).toArray := by
    rw [hl]; simp
    rw [show 1 + cs.length = cs.length + 1 by omega]; simp
  rw [setRow_heap w B _ _ _ _ h, e]

set_option maxHeartbeats 4000000 in
set_option maxRecDepth 100000 in
theorem validAddr_gen (b : Bool) (xs : List Nat) (hx : Bytes xs) (w : World) :
    Calls Tryz.prog 55 #[.agg (adr b xs).toArray] w fun e w' => e = .returned (.agg (adr b (genX b xs)).toArray) ∧ Fr No w w' := by
  obtain ⟨A, hA, h0, hsz, hj⟩ := adr_letter b xs hx
  have v24 := zero30
  obtain ⟨Z, hZ⟩ : ∃ Z : Array Value, (adr false zeros).toArray = Z := ⟨_, rfl⟩
  rw [hZ] at v24
  rw [hA]
  obtain ⟨b1, b2, hF⟩ := alloc2 w (.cells A 30) (.cells Z 30)
  have k0 : ((w.alloc (.cells A 30)).alloc (.cells Z 30)).cell? ⟨w.heap.size, 0, none⟩ = some (.bool b) := by rw [cell_of_row _ _ _ _ _ _ b1]; exact h0
  have HJ : Hid (∀ i x : Nat, xs[i]? = some x → ((w.alloc (.cells A 30)).alloc (.cells Z 30)).cell? ⟨w.heap.size, 1 + i, none⟩ = some (.int .u8 x)) := fun i x h => by rw [cell_of_row _ _ _ _ _ _ b1]; exact hj i x h
  have HB : Hid (Fr No w ((w.alloc (.cells A 30)).alloc (.cells Z 30)) ∧ ((w.alloc (.cells A 30)).alloc (.cells Z 30)).heap[w.heap.size]? = some (.cells A 30 (0, 0)) ∧ ((w.alloc (.cells A 30)).alloc (.cells Z 30)).heap[w.heap.size + 1]? = some (.cells Z 30 (0, 0)) ∧ Z.size = 17 ∧ A.size = 17 ∧ (adr b xs).toArray = A ∧ ∀ u ∈ A.toList, u.oneCell' = true) := ⟨hF, b1, b2, by rw [← hZ]; rfl, hsz, hA, by rw [← hA]; exact adr_one _ _⟩
  clear hj hA h0 hsz b1 b2 hF hZ
  cases b
  · have g : ∀ i, i < 16 → ∃ x, xs[i]? = some x ∧ xs.getD i 0 = x := fun i hi => ⟨_, getD_get (by rw [hx.1]; exact hi), rfl⟩
    obtain ⟨x0, h0, e0⟩ := g 0 (by omega)
    obtain ⟨x1, h1, e1⟩ := g 1 (by omega)
    obtain ⟨x2, h2, e2⟩ := g 2 (by omega)
    obtain ⟨x3, h3, e3⟩ := g 3 (by omega)
    have c0 := HJ.out 0 _ h0
    have c1 := HJ.out 1 _ h1
    have c2 := HJ.out 2 _ h2
    have c3 := HJ.out 3 _ h3
    have HE : Hid (genX false xs = v4Of x0 x1 x2 x3) := by show _ = _; rw [genX, if_neg (by decide), e0, e1, e2, e3]
    clear g h0 h1 h2 h3 e0 e1 e2 e3
    have v22 : ∀ w, (zeroValue 28).run Tryz.prog w = .ok (.agg (nums .u8 zeros).toArray) w := fun w => by kernel_rfl
    go_enter Tryz.func55, Tryz.ntmps55
    have t3 := Tryz.underlying3
    have u3 := Tryz.runUnderlying3
    have g3 := Tryz.isAgg3
    have z3 := Tryz.sizeOf3
    have t4 := Tryz.underlying4
    have u4 := Tryz.runUnderlying4
    have g4 := Tryz.isAgg4
    have z4 := Tryz.sizeOf4
    have t5 := Tryz.underlying5
    have u5 := Tryz.runUnderlying5
    have g5 := Tryz.isAgg5
    have z5 := Tryz.sizeOf5
    have t28 := Tryz.underlying28
    have u28 := Tryz.runUnderlying28
    have g28 := Tryz.isAgg28
    have z28 := Tryz.sizeOf28
    have t30 := Tryz.underlying30
    have u30 := Tryz.runUnderlying30
    have g30 := Tryz.isAgg30
    have z30 := Tryz.sizeOf30
    have mixed : Tryz.prog.follows .mixedOrders = true := by kernel_rfl
    obtain ⟨k24, hk24⟩ : ∃ k, k = 17 := ⟨_, rfl⟩
    rw [← hk24] at z30
    have nk24 : ¬ k24 = 0 := by omega
    have HK30 := Lib.hid hk24
    obtain ⟨k22, hk22⟩ : ∃ k, k = 16 := ⟨_, rfl⟩
    rw [← hk22] at z28
    have nk22 : ¬ k22 = 0 := by omega
    have HK28 := Lib.hid hk22
    have hP : Tryz.prog = PD := rfl
    rw [hP] at t3 u3 g3 z3 t4 u4 g4 z4 t5 u5 g5 z5 t28 u28 g28 z28 t30 u30 g30 z30 mixed v24 v22 ⊢
    have HP := Lib.hid hP.symm
    clear hP hk24 hk22
    have hcx : ((((((nums IntKind.u8 zeros).set 0 (Value.int IntKind.u8 ↑x0)).set 1 (Value.int IntKind.u8 ↑x1)).set 2 (Value.int IntKind.u8 ↑x2)).set 3 (Value.int IntKind.u8 ↑x3)) = nums .u8 (v4Of x0 x1 x2 x3)) := rfl
    have hA1 : A = (Value.bool false :: nums .u8 xs).toArray := HB.out.2.2.2.2.2.1.symm
    obtain ⟨y, hst, hyb, hyf⟩ := store_tail (P := PD) (nums .u8 (v4Of x0 x1 x2 x3)) (by rw [HB.out.2.1, hA1]) (by rw [nums_length, nums_length, hx.1]; rfl) (nums_one _ _)
    have hk22 : (nums .u8 (v4Of x0 x1 x2 x3)).length = k22 := by rw [HK28.out]; rfl
    have hV : (adr false (v4Of x0 x1 x2 x3)).length = 17 := rfl
    have hld : Sem.run PD (loadCellsFrom ⟨w.heap.size, 0, none⟩ 0 k24 #[]) y = .ok (adr false (v4Of x0 x1 x2 x3)).toArray y := by rw [HK30.out]; exact load_all hyb hV
    have hbZ : y.heap[w.heap.size + 1]? = some (.cells Z 30 (0, 0)) := (hyf.block _ (Array.getElem?_eq_some_iff.1 HB.out.2.2.1).1 (by omega)).trans HB.out.2.2.1
    obtain ⟨y2, hst2, hyb2, hyf2⟩ := store_all (P := PD) (adr false (v4Of x0 x1 x2 x3)) hbZ (by rw [hV, HB.out.2.2.2.1]) (adr_one _ _)
    have hst3 : Sem.run PD (storeCells ⟨w.heap.size + 1, 0, none⟩ (adr false (v4Of x0 x1 x2 x3)).toArray.toList 0) y = .ok () y2 := hst2
    have H2 : Hid (y2.heap[w.heap.size + 1]? = some (.cells (adr false (v4Of x0 x1 x2 x3)).toArray 30 (0, 0)) ∧ Fr No w y2) := ⟨hyb2, ((HB.out.1).ofNew hyf (fun k hk => .inr (by rw [hk]; exact Nat.le_refl _))).ofNew hyf2 fun k hk => .inr (by rw [hk]; omega)⟩
    have hVk : (adr false (v4Of x0 x1 x2 x3)).length = k24 := by rw [HK30.out]; rfl
    have hVk2 : (adr false (v4Of x0 x1 x2 x3)).toArray.size = k24 := by rw [HK30.out]; rfl
    clear hyb hyf hyb2 hyf2 hbZ hA1 hV
    generalize hVV : adr false (v4Of x0 x1 x2 x3) = V at hld hst2 hst3 hVk hVk2 H2
    have HVV := Lib.hid hVV
    generalize hN4 : nums IntKind.u8 (v4Of x0 x1 x2 x3) = N4 at hcx hst hk22
    have hN4s : N4.toArray.size = k22 := by rw [List.size_toArray]; exact hk22
    clear hVV hN4
    go_wp2_with fail
    refine bodyPost_ret_by (results_agg rfl _ (b := w.heap.size + 1) (k := 17) (cs := V.toArray) (Tryz.isAgg30 _) (Tryz.sizeOf30 _) rfl (load_all H2.out.1 (by rw [← HVV.out]; rfl))) rfl ?_
    exact ⟨by rw [HE.out, HVV.out], H2.out.2⟩
  · have HE : Hid (genX true xs = xs) := rfl
    go_enter Tryz.func55, Tryz.ntmps55
    have t3 := Tryz.underlying3
    have u3 := Tryz.runUnderlying3
    have g3 := Tryz.isAgg3
    have z3 := Tryz.sizeOf3
    have t4 := Tryz.underlying4
    have u4 := Tryz.runUnderlying4
    have g4 := Tryz.isAgg4
    have z4 := Tryz.sizeOf4
    have t5 := Tryz.underlying5
    have u5 := Tryz.runUnderlying5
    have g5 := Tryz.isAgg5
    have z5 := Tryz.sizeOf5
    have t28 := Tryz.underlying28
    have u28 := Tryz.runUnderlying28
    have g28 := Tryz.isAgg28
    have z28 := Tryz.sizeOf28
    have t30 := Tryz.underlying30
    have u30 := Tryz.runUnderlying30
    have g30 := Tryz.isAgg30
    have z30 := Tryz.sizeOf30
    have mixed : Tryz.prog.follows .mixedOrders = true := by kernel_rfl
    obtain ⟨k24, hk24⟩ : ∃ k, k = 17 := ⟨_, rfl⟩
    rw [← hk24] at z30
    have nk24 : ¬ k24 = 0 := by omega
    have HK30 := Lib.hid hk24
    have hP : Tryz.prog = PD := rfl
    rw [hP] at t3 u3 g3 z3 t4 u4 g4 z4 t5 u5 g5 z5 t28 u28 g28 z28 t30 u30 g30 z30 mixed v24 ⊢
    have HP := Lib.hid hP.symm
    clear hP hk24
    have hl1 : Sem.run PD (loadCellsFrom ⟨w.heap.size, 0, none⟩ 0 k24 #[]) ((w.alloc (.cells A 30)).alloc (.cells Z 30)) = .ok A ((w.alloc (.cells A 30)).alloc (.cells Z 30)) := by rw [HK30.out]; exact load_block HB.out.2.1 HB.out.2.2.2.2.1 (fun j v hv => by simpa using hv)
    have hak : A.size = k24 := by rw [HK30.out]; exact HB.out.2.2.2.2.1
    obtain ⟨y', h2, h3, h4⟩ := store_all (P := PD) A.toList HB.out.2.2.1 (by rw [Array.length_toList, HB.out.2.2.2.1, HB.out.2.2.2.2.1]) HB.out.2.2.2.2.2.2
    have H2 : Hid (y'.heap[w.heap.size + 1]? = some (.cells (adr true (genX true xs)).toArray 30 (0, 0)) ∧ Fr No w y') := ⟨by rw [HE.out, HB.out.2.2.2.2.2.1]; simpa using h3, HB.out.1.ofNew h4 fun k hk => .inr (by rw [hk]; omega)⟩
    clear h3 h4
    go_wp2_with fail
    refine bodyPost_ret_by (results_agg rfl _ (b := w.heap.size + 1) (k := 17) (cs := _) (Tryz.isAgg30 _) (Tryz.sizeOf30 _) rfl (load_all H2.out.1 (by rw [adr_length, HE.out, hx.1]))) rfl ?_
    exact ⟨rfl, H2.out.2⟩
end Go.Proofs.YtmhnailcmlomiaaGreatDoor
