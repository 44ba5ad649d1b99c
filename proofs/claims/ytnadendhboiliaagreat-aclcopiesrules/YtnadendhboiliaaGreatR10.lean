/-
  CONTRACTS of the reference's Valid and Unmap and of the generator's ValidAddr, over this seat's translation: what each call returns.
  Conditions: the argument is an address.
  CONTRACTS of the reference's Unmap and of the generator's ValidAddr, over this seat's translation: what each call returns.
  Conditions: the argument is an address.
  CONTRACTS of the reference's FormatHex, over this seat's translation: what the call returns.
  Conditions: the number is below 65536.
  CONTRACTS of the reference's FormatDecimal, over this seat's translation: what the call returns.
  Conditions: the number is below 2 to the 31.
  CONTRACTS of the reference's Format, over this seat's translation: what the call returns.
  Conditions: the argument is an address.
-/
import Derived.Test.YtnadendhboiliaaGreatGr
import Derived.Test.YtnadendhboiliaaGreatA
import Derived.Deep.RegionHeld3
import Derived.Test.YtnadendhboiliaaGreatH3
import Derived.Deep.RegionLaw
import Derived.Test.YtnadendhboiliaaGreatPf
import Derived.Test.YtnadendhboiliaaGreatR2
namespace Go.Proofs.YtnadendhboiliaaGreat
open Go.ChangeShapes Go.WideShapes Go.ChangeAt Go.RowKit
set_option linter.unusedVariables false

theorem valid_yes {xs : List Nat} (hx : Bytes xs) (h : ∀ j, 4 ≤ j → j < 16 → xs[j]? = some 0) : validA false xs = true := by
  unfold validA
  rw [Bool.false_or, List.all_eq_true]
  intro x hm
  obtain ⟨k, hk, hke⟩ := List.mem_iff_getElem.1 hm
  rw [List.length_drop, hx.1] at hk
  have h1 := h (4 + k) (by omega) (by omega)
  rw [List.getElem_drop] at hke
  rw [List.getElem?_eq_getElem (by rw [hx.1]; omega), hke] at h1
  cases h1; rfl
theorem valid_no {xs : List Nat} {i x : Nat} (hi : 4 ≤ i) (h : xs[i]? = some x) (h0 : x ≠ 0) : validA false xs = false := by
  cases hv : validA false xs with
  | false => rfl
  | true =>
    unfold validA at hv
    rw [Bool.false_or, List.all_eq_true] at hv
    have h1 : x ∈ xs.drop 4 := by
      refine List.mem_of_getElem? (i := i - 4) ?_
      rw [List.getElem?_drop, show 4 + (i - 4) = i by omega, h]
    have := hv x h1
    simp at this
    exact absurd this h0

set_option maxHeartbeats 2000000 in
set_option maxRecDepth 100000 in
theorem valid_ref (b : Bool) (xs : List Nat) (hx : Bytes xs) (w : World) :
    Calls Tryz.prog 68 #[.agg (adr b xs).toArray] w fun e w' => e = .returned (.bool (validA b xs)) ∧ Fr No w w' := by
  obtain ⟨A, hA, h0, hsz, hj⟩ := adr_letter b xs hx
  rw [hA]
  have hbk := heap_alloc_new w (.cells A 25)
  have HF := Lib.hid (Fr.alloc No w (.cells A 25))
  have k0 : (w.alloc (.cells A 25)).cell? ⟨w.heap.size, 0, none⟩ = some (.bool b) := by rw [cell_of_row _ _ _ _ _ _ hbk]; exact h0
  have HJ : Hid (∀ i x : Nat, xs[i]? = some x → (w.alloc (.cells A 25)).cell? ⟨w.heap.size, 1 + i, none⟩ = some (.int .u8 x)) := fun i x h => by rw [cell_of_row _ _ _ _ _ _ hbk]; exact hj i x h
  clear hj hA h0 hsz hbk
  cases b
  · go_enter Tryz.func68, Tryz.ntmps68
    go_wp2_with fail
    generalize w.alloc (.cells A 25) = w1 at k0 HF HJ ⊢
    generalize w.heap.size = n at k0 HJ ⊢
    go_loopg [3] 13 (fun g s wr => ∃ i : Nat, s = .int .i64 i ∧ 4 ≤ i ∧ i ≤ 16 ∧ 16 - i < g ∧ Hid (wr = w1 ∧ ∀ j, 4 ≤ j → j < i → xs[j]? = some 0))
    case atStart => exact ⟨4, by go_num, by omega, by omega, by omega, rfl, fun j h1 h2 => by omega⟩
    case round =>
      obtain ⟨i, rfl, hi4, hi16, hig, HR⟩ := hrel
      obtain ⟨hw, hall⟩ := HR.out
      have hw' := hw.symm
      subst hw'
      clear hw HR
      by_cases hi : i = 16
      · subst hi
        have HV := Lib.hid (valid_yes hx hall)
        clear hall
        go_wp2_with fail
        go_ret
        exact ⟨by rw [HV.out]; rfl, HF.out⟩
      · have q2 : (i : Int) < 16 := by omega
        have q1 : (0 : Int) ≤ (i : Int) := by omega
        obtain ⟨x, h1, -, l1⟩ := get_or hx i (by omega)
        have c1 := HJ.out i x h1
        by_cases hx0 : x = 0
        · subst hx0
          have c2 : w1.cell? ⟨n, 1 + i, none⟩ = some (.int .u8 0) := c1
          have HA : Hid (∀ j, 4 ≤ j → j < i + 1 → xs[j]? = some 0) := fun j hj1 hj2 => by
            by_cases hji : j = i
            · rw [hji]; exact h1
            · exact hall j hj1 (by omega)
          clear hall h1 c1
          go_wp2_with fail
          go_roundg (16 - i)
          case measure => exact hig
          case rel => exact ⟨i + 1, by go_num, by omega, by omega, by omega, rfl, HA.out⟩
        · have p1 : ¬ (x : Int) = 0 := by omega
          have HV := Lib.hid (valid_no hi4 h1 hx0)
          clear hall h1 hx0
          go_wp2_with fail
          go_ret
          exact ⟨by rw [HV.out]; rfl, HF.out⟩
  · go_enter Tryz.func68, Tryz.ntmps68
    go_wp2_with fail
    generalize w.alloc (.cells A 25) = w1 at k0 HF ⊢
    generalize w.heap.size = n at k0 ⊢
    go_loopg [3] 2 (fun g s wr => s = .int .i64 4 ∧ 0 < g ∧ wr = w1)
    case atStart => exact ⟨by go_num, by omega, rfl⟩
    case round =>
      obtain ⟨rfl, hg, rfl⟩ := hrel
      go_wp2_with fail
      go_ret
      exact ⟨rfl, HF.out⟩

theorem mapped_no {b : Bool} {xs : List Nat} {i x : Nat} (hi : i < 10) (h : xs[i]? = some x) (h0 : x ≠ 0) : isMapped b xs = false := by
  have : ¬ xs.take 12 = mapped := by
    intro e
    have h1 : (xs.take 12)[i]? = some x := by rw [List.getElem?_take, if_pos (by omega), h]
    rw [e] at h1
    have : i = 0 ∨ i = 1 ∨ i = 2 ∨ i = 3 ∨ i = 4 ∨ i = 5 ∨ i = 6 ∨ i = 7 ∨ i = 8 ∨ i = 9 := by omega
    rcases this with rfl | rfl | rfl | rfl | rfl | rfl | rfl | rfl | rfl | rfl <;> (cases h1; exact h0 rfl)
  simp [isMapped, this]
theorem mapped_no2 {b : Bool} {xs : List Nat} {i x : Nat} (hi : i = 10 ∨ i = 11) (h : xs[i]? = some x) (h0 : x ≠ 255) : isMapped b xs = false := by
  have : ¬ xs.take 12 = mapped := by
    intro e
    have h1 : (xs.take 12)[i]? = some x := by rw [List.getElem?_take, if_pos (by omega), h]
    rw [e] at h1
    rcases hi with rfl | rfl <;> (cases h1; exact h0 rfl)
  simp [isMapped, this]
theorem mapped_yes {xs : List Nat} (hx : Bytes xs) (h : ∀ j, j < 10 → xs[j]? = some 0) (h10 : xs[10]? = some 255) (h11 : xs[11]? = some 255) : isMapped true xs = true := by
  obtain ⟨hl, hb⟩ := hx
  match xs, hl with
  | [x0, x1, x2, x3, x4, x5, x6, x7, x8, x9, x10, x11, x12, x13, x14, x15], _ =>
    have e0 := h 0 (by omega); have e1 := h 1 (by omega); have e2 := h 2 (by omega); have e3 := h 3 (by omega); have e4 := h 4 (by omega)
    have e5 := h 5 (by omega); have e6 := h 6 (by omega); have e7 := h 7 (by omega); have e8 := h 8 (by omega); have e9 := h 9 (by omega)
    simp at e0 e1 e2 e3 e4 e5 e6 e7 e8 e9 h10 h11
    simp [isMapped, mapped, e0, e1, e2, e3, e4, e5, e6, e7, e8, e9, h10, h11]
end Go.Proofs.YtnadendhboiliaaGreat
namespace Go.Proofs.YtnadendhboiliaaGreat
open Go.ChangeShapes Go.WideShapes Go.ChangeAt Go.RowKit
set_option linter.unusedVariables false

/-- What ValidAddr gives. -/
def genX (b : Bool) (xs : List Nat) : List Nat := if b then xs else v4Of (xs.getD 0 0) (xs.getD 1 0) (xs.getD 2 0) (xs.getD 3 0)
theorem gen_bytes {b : Bool} {xs : List Nat} (hx : Bytes xs) : Bytes (genX b xs) := by
  unfold genX
  split
  · exact hx
  · have h : ∀ i, xs.getD i 0 < 256 := fun i => by
      rw [List.getD]
      cases hi : xs[i]? with
      | none => simp
      | some x => exact hx.2 x (List.mem_of_getElem? hi)
    exact v4_bytes (h _) (h _) (h _) (h _)
theorem gen_valid (b : Bool) (xs : List Nat) : validA b (genX b xs) = true := by
  cases b
  · rfl
  · rfl

theorem store_tail {P : Program} {w : World} {B : Nat} {v : Value} {cs : List Value} {t : TypeId} (xs : List Value) (h : w.heap[B]? = some (.cells (v :: cs).toArray t (0, 0))) (hl : xs.length = cs.length) (h1 : ∀ u ∈ xs, u.oneCell' = true) :
    ∃ y, Sem.run P (storeCells ⟨B, 1, none⟩ xs 0) w = .ok () y ∧ y.heap[B]? = some (.cells (v :: xs).toArray t (0, 0)) ∧ Fr (fun k => k = B) w y := by
  have hst := run_storeCells_at P B 1 t xs 0 (v :: cs).toArray w h (by simp; omega) h1
  refine ⟨_, hst, ?_, Fr.setRow _ _ _ _ rfl⟩
  have e : ((v :: cs).toArray.toList.take (1 + 0) ++ xs ++ (v :: cs).toArray.toList.drop (1 + 0 + xs.length)).toArray = (v :: xs).toArray := by
    rw [hl]; simp
    rw [show 1 + cs.length = cs.length + 1 by omega]; simp
  rw [setRow_heap w B _ _ _ _ h, e]

set_option maxHeartbeats 4000000 in
set_option maxRecDepth 100000 in
theorem validAddr_gen (b : Bool) (xs : List Nat) (hx : Bytes xs) (w : World) :
    Calls Tryz.prog 23 #[.agg (adr b xs).toArray] w fun e w' => e = .returned (.agg (adr b (genX b xs)).toArray) ∧ Fr No w w' := by
  obtain ⟨A, hA, h0, hsz, hj⟩ := adr_letter b xs hx
  have v24 := zero25
  obtain ⟨Z, hZ⟩ : ∃ Z : Array Value, (adr false zeros).toArray = Z := ⟨_, rfl⟩
  rw [hZ] at v24
  rw [hA]
  obtain ⟨b1, b2, hF⟩ := alloc2 w (.cells A 25) (.cells Z 25)
  have k0 : ((w.alloc (.cells A 25)).alloc (.cells Z 25)).cell? ⟨w.heap.size, 0, none⟩ = some (.bool b) := by rw [cell_of_row _ _ _ _ _ _ b1]; exact h0
  have HJ : Hid (∀ i x : Nat, xs[i]? = some x → ((w.alloc (.cells A 25)).alloc (.cells Z 25)).cell? ⟨w.heap.size, 1 + i, none⟩ = some (.int .u8 x)) := fun i x h => by rw [cell_of_row _ _ _ _ _ _ b1]; exact hj i x h
  have HB : Hid (Fr No w ((w.alloc (.cells A 25)).alloc (.cells Z 25)) ∧ ((w.alloc (.cells A 25)).alloc (.cells Z 25)).heap[w.heap.size]? = some (.cells A 25 (0, 0)) ∧ ((w.alloc (.cells A 25)).alloc (.cells Z 25)).heap[w.heap.size + 1]? = some (.cells Z 25 (0, 0)) ∧ Z.size = 17 ∧ A.size = 17 ∧ (adr b xs).toArray = A ∧ ∀ u ∈ A.toList, u.oneCell' = true) := ⟨hF, b1, b2, by rw [← hZ]; rfl, hsz, hA, by rw [← hA]; exact adr_one _ _⟩
  clear hj hA h0 hsz b1 b2 hF hZ
  cases b
  · have g : ∀ i, i < 16 → ∃ x, xs[i]? = some x ∧ xs.getD i 0 = x := fun i hi => ⟨_, getD_get (by rw [hx.1]; exact hi), rfl⟩
    obtain ⟨x0, h0, e0⟩ := g 0 (by omega)
    obtain ⟨x1, h1, e1⟩ := g 1 (by omega)
    obtain ⟨x2, h2, e2⟩ := g 2 (by omega)
    obtain ⟨x3, h3, e3⟩ := g 3 (by omega)
    have c0 := HJ.out 0 _ h0
    have c1 := HJ.out 1 _ h1
    have c2 := HJ.out 2 _ h2
    have c3 := HJ.out 3 _ h3
    have HE : Hid (genX false xs = v4Of x0 x1 x2 x3) := by show _ = _; rw [genX, if_neg (by decide), e0, e1, e2, e3]
    clear g h0 h1 h2 h3 e0 e1 e2 e3
    have v22 : ∀ w, (zeroValue 23).run Tryz.prog w = .ok (.agg (nums .u8 zeros).toArray) w := fun w => by kernel_rfl
    go_enter Tryz.func23, Tryz.ntmps23
    have t3 := Tryz.underlying3
    have u3 := Tryz.runUnderlying3
    have g3 := Tryz.isAgg3
    have z3 := Tryz.sizeOf3
    have t4 := Tryz.underlying4
    have u4 := Tryz.runUnderlying4
    have g4 := Tryz.isAgg4
    have z4 := Tryz.sizeOf4
    have t5 := Tryz.underlying5
    have u5 := Tryz.runUnderlying5
    have g5 := Tryz.isAgg5
    have z5 := Tryz.sizeOf5
    have t23 := Tryz.underlying23
    have u23 := Tryz.runUnderlying23
    have g23 := Tryz.isAgg23
    have z23 := Tryz.sizeOf23
    have t25 := Tryz.underlying25
    have u25 := Tryz.runUnderlying25
    have g25 := Tryz.isAgg25
    have z25 := Tryz.sizeOf25
    have mixed : Tryz.prog.follows .mixedOrders = true := by kernel_rfl
    obtain ⟨k24, hk24⟩ : ∃ k, k = 17 := ⟨_, rfl⟩
    rw [← hk24] at z25
    have nk24 : ¬ k24 = 0 := by omega
    have HK25 := Lib.hid hk24
    obtain ⟨k22, hk22⟩ : ∃ k, k = 16 := ⟨_, rfl⟩
    rw [← hk22] at z23
    have nk22 : ¬ k22 = 0 := by omega
    have HK23 := Lib.hid hk22
    have hP : Tryz.prog = PD := rfl
    rw [hP] at t3 u3 g3 z3 t4 u4 g4 z4 t5 u5 g5 z5 t23 u23 g23 z23 t25 u25 g25 z25 mixed v24 v22 ⊢
    have HP := Lib.hid hP.symm
    clear hP hk24 hk22
    have hcx : ((((((nums IntKind.u8 zeros).set 0 (Value.int IntKind.u8 ↑x0)).set 1 (Value.int IntKind.u8 ↑x1)).set 2 (Value.int IntKind.u8 ↑x2)).set 3 (Value.int IntKind.u8 ↑x3)) = nums .u8 (v4Of x0 x1 x2 x3)) := rfl
    have hA1 : A = (Value.bool false :: nums .u8 xs).toArray := HB.out.2.2.2.2.2.1.symm
    obtain ⟨y, hst, hyb, hyf⟩ := store_tail (P := PD) (nums .u8 (v4Of x0 x1 x2 x3)) (by rw [HB.out.2.1, hA1]) (by rw [nums_length, nums_length, hx.1]; rfl) (nums_one _ _)
    have hk22 : (nums .u8 (v4Of x0 x1 x2 x3)).length = k22 := by rw [HK23.out]; rfl
    have hV : (adr false (v4Of x0 x1 x2 x3)).length = 17 := rfl
    have hld : Sem.run PD (loadCellsFrom ⟨w.heap.size, 0, none⟩ 0 k24 #[]) y = .ok (adr false (v4Of x0 x1 x2 x3)).toArray y := by rw [HK25.out]; exact load_all hyb hV
    have hbZ : y.heap[w.heap.size + 1]? = some (.cells Z 25 (0, 0)) := (hyf.block _ (Array.getElem?_eq_some_iff.1 HB.out.2.2.1).1 (by omega)).trans HB.out.2.2.1
    obtain ⟨y2, hst2, hyb2, hyf2⟩ := store_all (P := PD) (adr false (v4Of x0 x1 x2 x3)) hbZ (by rw [hV, HB.out.2.2.2.1]) (adr_one _ _)
    have hst3 : Sem.run PD (storeCells ⟨w.heap.size + 1, 0, none⟩ (adr false (v4Of x0 x1 x2 x3)).toArray.toList 0) y = .ok () y2 := hst2
    have H2 : Hid (y2.heap[w.heap.size + 1]? = some (.cells (adr false (v4Of x0 x1 x2 x3)).toArray 25 (0, 0)) ∧ Fr No w y2) := ⟨hyb2, ((HB.out.1).ofNew hyf (fun k hk => .inr (by rw [hk]; exact Nat.le_refl _))).ofNew hyf2 fun k hk => .inr (by rw [hk]; omega)⟩
    have hVk : (adr false (v4Of x0 x1 x2 x3)).length = k24 := by rw [HK25.out]; rfl
    have hVk2 : (adr false (v4Of x0 x1 x2 x3)).toArray.size = k24 := by rw [HK25.out]; rfl
    clear hyb hyf hyb2 hyf2 hbZ hA1 hV
    generalize hVV : adr false (v4Of x0 x1 x2 x3) = V at hld hst2 hst3 hVk hVk2 H2
    have HVV := Lib.hid hVV
    generalize hN4 : nums IntKind.u8 (v4Of x0 x1 x2 x3) = N4 at hcx hst hk22
    have hN4s : N4.toArray.size = k22 := by rw [List.size_toArray]; exact hk22
    clear hVV hN4
    go_wp2_with fail
    refine bodyPost_ret_by (results_agg rfl _ (b := w.heap.size + 1) (k := 17) (cs := V.toArray) (Tryz.isAgg25 _) (Tryz.sizeOf25 _) rfl (load_all H2.out.1 (by rw [← HVV.out]; rfl))) rfl ?_
    exact ⟨by rw [HE.out, HVV.out], H2.out.2⟩
  · have HE : Hid (genX true xs = xs) := rfl
    go_enter Tryz.func23, Tryz.ntmps23
    have t3 := Tryz.underlying3
    have u3 := Tryz.runUnderlying3
    have g3 := Tryz.isAgg3
    have z3 := Tryz.sizeOf3
    have t4 := Tryz.underlying4
    have u4 := Tryz.runUnderlying4
    have g4 := Tryz.isAgg4
    have z4 := Tryz.sizeOf4
    have t5 := Tryz.underlying5
    have u5 := Tryz.runUnderlying5
    have g5 := Tryz.isAgg5
    have z5 := Tryz.sizeOf5
    have t23 := Tryz.underlying23
    have u23 := Tryz.runUnderlying23
    have g23 := Tryz.isAgg23
    have z23 := Tryz.sizeOf23
    have t25 := Tryz.underlying25
    have u25 := Tryz.runUnderlying25
    have g25 := Tryz.isAgg25
    have z25 := Tryz.sizeOf25
    have mixed : Tryz.prog.follows .mixedOrders = true := by kernel_rfl
    obtain ⟨k24, hk24⟩ : ∃ k, k = 17 := ⟨_, rfl⟩
    rw [← hk24] at z25
    have nk24 : ¬ k24 = 0 := by omega
    have HK25 := Lib.hid hk24
    have hP : Tryz.prog = PD := rfl
    rw [hP] at t3 u3 g3 z3 t4 u4 g4 z4 t5 u5 g5 z5 t23 u23 g23 z23 t25 u25 g25 z25 mixed v24 ⊢
    have HP := Lib.hid hP.symm
    clear hP hk24
    have hl1 : Sem.run PD (loadCellsFrom ⟨w.heap.size, 0, none⟩ 0 k24 #[]) ((w.alloc (.cells A 25)).alloc (.cells Z 25)) = .ok A ((w.alloc (.cells A 25)).alloc (.cells Z 25)) := by rw [HK25.out]; exact load_block HB.out.2.1 HB.out.2.2.2.2.1 (fun j v hv => by simpa using hv)
    have hak : A.size = k24 := by rw [HK25.out]; exact HB.out.2.2.2.2.1
    obtain ⟨y', h2, h3, h4⟩ := store_all (P := PD) A.toList HB.out.2.2.1 (by rw [Array.length_toList, HB.out.2.2.2.1, HB.out.2.2.2.2.1]) HB.out.2.2.2.2.2.2
    have H2 : Hid (y'.heap[w.heap.size + 1]? = some (.cells (adr true (genX true xs)).toArray 25 (0, 0)) ∧ Fr No w y') := ⟨by rw [HE.out, HB.out.2.2.2.2.2.1]; simpa using h3, HB.out.1.ofNew h4 fun k hk => .inr (by rw [hk]; omega)⟩
    clear h3 h4
    go_wp2_with fail
    refine bodyPost_ret_by (results_agg rfl _ (b := w.heap.size + 1) (k := 17) (cs := _) (Tryz.isAgg25 _) (Tryz.sizeOf25 _) rfl (load_all H2.out.1 (by rw [adr_length, HE.out, hx.1]))) rfl ?_
    exact ⟨rfl, H2.out.2⟩
end Go.Proofs.YtnadendhboiliaaGreat
namespace Go.Proofs.YtnadendhboiliaaGreat
open Go.ChangeShapes Go.WideShapes Go.ChangeAt Go.RowKit
set_option linter.unusedVariables false

theorem hexN_len4 : ∀ n : Nat, n < 65536 → (hexN n).length ≤ 4 := by
  intro n h
  have h1 : ∀ n, n < 16 → (hexN n).length = 1 := fun n h => by rw [hexN_small h]; rfl
  have h2 : ∀ n, n < 256 → (hexN n).length ≤ 2 := fun n h => by
    by_cases h' : n < 16
    · rw [h1 n h']; omega
    · rw [hexN_big (by omega), List.length_append, h1 _ (by omega)]; simp
  have h3 : ∀ n, n < 4096 → (hexN n).length ≤ 3 := fun n h => by
    by_cases h' : n < 16
    · rw [h1 n h']; omega
    · rw [hexN_big (by omega), List.length_append]; have := h2 (n / 16) (by omega); simp; omega
  by_cases h' : n < 16
  · rw [h1 n h']; omega
  · rw [hexN_big (by omega), List.length_append]; have := h3 (n / 16) (by omega); simp; omega

theorem str_app (xs ys : List Nat) : str (xs ++ ys) = str xs ++ str ys := by
  unfold str
  apply ByteArray.ext
  simp

theorem hexs_slice : ∀ d, d < 16 → (⟨#[48, 49, 50, 51, 52, 53, 54, 55, 56, 57, 97, 98, 99, 100, 101, 102]⟩ : ByteArray).extract d (d + 1) = str [hexD d] := by
  have h : ∀ d, d < 16 → ((⟨#[48, 49, 50, 51, 52, 53, 54, 55, 56, 57, 97, 98, 99, 100, 101, 102]⟩ : ByteArray).extract d (d + 1)).data.toList = (str [hexD d]).data.toList := by decide
  intro d hd
  have h1 := h d hd
  exact ByteArray.ext (Array.toList_inj.1 h1)

end Go.Proofs.YtnadendhboiliaaGreat
namespace Go.Proofs.YtnadendhboiliaaGreat
open Go.ChangeShapes Go.WideShapes Go.ChangeAt Go.RowKit
set_option linter.unusedVariables false

theorem decN_len10 {n : Nat} : n < 2147483648 → (decN n).length ≤ 10 := by
  have key : ∀ k n, n < 10 ^ (k + 1) → (decN n).length ≤ k + 1 := by
    intro k
    induction k with
    | zero => intro n h; rw [decN_small (by simpa using h)]; simp
    | succ k ih =>
      intro n h
      by_cases h1 : n < 10
      · rw [decN_small h1]; simp
      · rw [decN_big (by omega), List.length_append]
        have := ih (n / 10) (by rw [Nat.pow_succ] at h; omega)
        simp; omega
  intro h
  exact key 9 n (by have : (10 : Nat) ^ (9 + 1) = 10000000000 := by decide
                    omega)

end Go.Proofs.YtnadendhboiliaaGreat
namespace Go.Proofs.YtnadendhboiliaaGreat
open Go.ChangeShapes Go.WideShapes Go.ChangeAt Go.RowKit
set_option linter.unusedVariables false

theorem bs_isEmpty_l (l : List UInt8) : (bs l).toList.isEmpty = l.isEmpty := by
  have : (bs l).toList = l := by rw [ByteArray.toList_eq]; rfl
  rw [this]
theorem str_size (t : List Nat) : (str t).size = t.length := by simp [str, ByteArray.size]
theorem str_isEmpty (t : List Nat) : (str t).toList.isEmpty = t.isEmpty := by
  rw [str_oct, bs_isEmpty_l]
  cases t <;> rfl
theorem txtAt_length {gs : List Nat} (hb : ∀ g ∈ gs, g < 65536) (h8 : gs.length = 8) (s l i : Nat) : (txtAt gs s l i).length ≤ 100 := by
  have hj : ∀ gs : List Nat, gs.length ≤ 8 → (∀ g ∈ gs, g < 65536) → (joinN 58 (gs.map hexN)).length ≤ 40 := fun gs hl hb => by
    have h1 := joinN_length 58 4 (gs.map hexN) (fun x hx => by
      obtain ⟨g, hg, rfl⟩ := List.mem_map.1 hx
      exact hexN_length g (hb g hg))
    rw [List.length_map] at h1
    omega
  unfold txtAt
  split
  · have := hj (gs.take i) (by rw [List.length_take]; omega) (fun g hg => hb g (List.mem_of_mem_take hg))
    omega
  · have h1 := hj (gs.take s) (by rw [List.length_take]; omega) (fun g hg => hb g (List.mem_of_mem_take hg))
    have h2 := hj ((gs.drop (s + l)).take (i - (s + l))) (by rw [List.length_take, List.length_drop]; omega) (fun g hg => hb g (List.mem_of_mem_drop (List.mem_of_mem_take hg)))
    rw [List.length_append, List.length_append]
    simp only [List.length_cons, List.length_nil]
    omega

theorem joinN_mem (sep : Nat) : ∀ (xs : List (List Nat)) (y : Nat), y ∈ joinN sep xs → y = sep ∨ ∃ x ∈ xs, y ∈ x
  | [], y, h => by cases h
  | [x], y, h => .inr ⟨x, by simp, h⟩
  | x :: z :: r, y, h => by
    rw [joinN] at h
    rcases List.mem_append.1 h with h | h
    · exact .inr ⟨x, by simp, h⟩
    · rcases List.mem_cons.1 h with h | h
      · exact .inl h
      · rcases joinN_mem sep (z :: r) y h with h | ⟨u, hu, h⟩
        · exact .inl h
        · exact .inr ⟨u, List.mem_cons_of_mem _ hu, h⟩
theorem joinH_lt (gs : List Nat) : ∀ y ∈ joinN 58 (gs.map hexN), y < 256 := by
  intro y hy
  rcases joinN_mem 58 _ y hy with h | ⟨x, hx, h⟩
  · omega
  · obtain ⟨n, _, rfl⟩ := List.mem_map.1 hx
    exact (hexN_ne n y h).2.2
theorem txtAt_lt (gs : List Nat) (s l i : Nat) : ∀ y ∈ txtAt gs s l i, y < 256 := by
  intro y hy
  unfold txtAt at hy
  split at hy
  · exact joinH_lt _ y hy
  · rcases List.mem_append.1 hy with hy | hy
    · rcases List.mem_append.1 hy with hy | hy
      · exact joinH_lt _ y hy
      · simp at hy; omega
    · exact joinH_lt _ y hy

/-- The reference's choice as a run: none is a run behind the end. -/
theorem best_run {gs : List Nat} (h8 : gs.length = 8) {f : Int} {m : Nat} (h : bestZ gs 8 = (f, m)) : ∃ s l : Nat, 1 ≤ l ∧ s + l ≤ 9 ∧ txtAt gs s l 8 = fmt6 gs ∧ ((f = -1 ∧ s = 8) ∨ (f = s ∧ m = l ∧ s + l ≤ 8)) := by
  rw [best_scan h8] at h
  have hz := (zero_scan h8).2
  have hf : fmt6 gs = if (scanZ gs 0 0 0 0).2 < 2 then joinN 58 (gs.map hexN) else joinN 58 ((gs.take (scanZ gs 0 0 0 0).1).map hexN) ++ [58, 58] ++ joinN 58 ((gs.drop ((scanZ gs 0 0 0 0).1 + (scanZ gs 0 0 0 0).2)).map hexN) := rfl
  generalize (scanZ gs 0 0 0 0).1 = s at h hz hf
  generalize (scanZ gs 0 0 0 0).2 = l at h hz hf
  by_cases h2 : l < 2
  · rw [if_pos h2] at h hf
    cases h
    exact ⟨8, 1, by omega, by omega, by rw [hf]; exact txtAt_plain h8 8 1 (by omega), .inl ⟨rfl, rfl⟩⟩
  · rw [if_neg h2] at h hf
    cases h
    exact ⟨s, m, by omega, by omega, by rw [hf]; exact txtAt_end h8 s m hz (by omega), .inr ⟨rfl, rfl, hz⟩⟩

theorem last_index {t : List Nat} {x : Nat} (h : t.getLast? = some x) (hx : x < 256) (w : World) : Sem.run Tryz.prog (Instr.index 9 (.string (str t)) (.int .i64 ((t.length : Int) - 1))) w = .ok (.int .u8 (x : Int)) w := by
  have hne : t ≠ [] := by intro e; rw [e] at h; cases h
  have hl : 0 < t.length := List.length_pos_iff.2 hne
  have h1 : (oct8 t)[t.length - 1]? = some (UInt8.ofNat x) := by
    rw [oct8, List.getElem?_map, ← List.getLast?_eq_getElem?, h]; rfl
  have h2 := bs_index h1 w
  have hc : ((t.length - 1 : Nat) : Int) = (t.length : Int) - 1 := by omega
  have hn : ((UInt8.ofNat x).toNat : Int) = (x : Int) := by simp; omega
  rw [hc, hn] at h2
  exact h2

theorem fmt4_four {xs : List Nat} {x0 x1 x2 x3 : Nat} (h0 : xs[0]? = some x0) (h1 : xs[1]? = some x1) (h2 : xs[2]? = some x2) (h3 : xs[3]? = some x3) : fmt4 xs = decN x0 ++ 46 :: (decN x1 ++ 46 :: (decN x2 ++ 46 :: decN x3)) := by
  have e : xs.take 4 = [x0, x1, x2, x3] := by
    rw [List.take_add_one, List.take_add_one, List.take_add_one, List.take_add_one, h0, h1, h2, h3]
    rfl
  rw [fmt4, e]
  rfl

end Go.Proofs.YtnadendhboiliaaGreat
