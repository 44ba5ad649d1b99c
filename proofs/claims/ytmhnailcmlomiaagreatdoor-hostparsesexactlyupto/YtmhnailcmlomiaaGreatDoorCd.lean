/-
  CONTRACTS of package cidr's Contains, Valid and Covers, over this seat's translation: what each call returns.
  Conditions: the arguments are addresses and prefixes.
-/
import Derived.Test.YtmhnailcmlomiaaGreatDoorCc
namespace Go.Proofs.YtmhnailcmlomiaaGreatDoor
open Go.ChangeShapes Go.WideShapes Go.ChangeAt Go.RowKit
set_option linter.unusedVariables false

theorem adr_eq9 {b c : Bool} {xs ys : List Nat} (hx : Bytes xs) (hy : Bytes ys) (w : World) : Sem.run Tryz.prog (Op.equalIn 9999 30 (.agg (adr b xs).toArray) (.agg (adr c ys).toArray)) w = .ok (decide (b = c ∧ xs = ys)) w := by
  have hS : Tryz.prog.underlying 30 = some (.struct (Tryz.prog.fieldsOf 30)) := by kernel_rfl
  have hF : Tryz.prog.fieldsOf 30 = #[{ name := "IPv6", type := 4, offset := 0, embedded := false, tag := "", pkgPath := "", byteOffset := 0 }, { name := "Bytes", type := 28, offset := 1, embedded := false, tag := "", pkgPath := "", byteOffset := 1 }] := by kernel_rfl
  have ex : ∀ (b : Bool) (xs : List Nat), Bytes xs → (adr b xs).toArray.extract 1 (1 + 16) = ((xs.map UInt8.ofNat).map Extern.Stop.cell).toArray := by
    intro b xs hx
    rw [← nums_u8 hx.2]
    apply Array.ext'
    simp [adr]
    rw [List.take_of_length_le (by rw [nums_length, hx.1]; omega)]
  have hE : Sem.run Tryz.prog (Op.equalIn 9998 28 (.agg ((adr b xs).toArray.extract 1 (1 + 16))) (.agg ((adr c ys).toArray.extract 1 (1 + 16)))) w = .ok (decide (xs = ys)) w := by
    rw [ex b xs hx, ex c ys hy, run_equalIn_bytes w 9996 28 5 16 Tryz.underlying28 Tryz.underlying5 Tryz.sizeOf5 _ _ (by simpa using hx.1) (by simpa using hy.1), ofNat_inj hx.2 hy.2]
  have hB : Sem.run Tryz.prog (Op.equalIn 9998 4 (.bool b) (.bool c)) w = .ok (b == c) w := by rw [run_equalIn_bool' w 9997 4 b c Tryz.underlying4]
  have h0 : ∀ (b : Bool) (xs : List Nat), (adr b xs).toArray[0]? = some (.bool b) := fun b xs => rfl
  rw [show (9999 : Nat) = 9998 + 1 from rfl, run_equalIn_agg w 9998 30 _ _ hS Tryz.stoodInHeld30, hF]
  have e1 : ∀ (b : Bool) (xs : List Nat), (adr b xs).toArray.extract 1 17 = (List.take 16 (adr b xs).tail).toArray := fun b xs => by apply Array.ext'; simp [adr]
  rw [show 1 + 16 = 17 from rfl, e1 b xs, e1 c ys] at hE
  simp [Op.eqFields, Go.part, Tryz.isAgg4, Tryz.isAgg28, Tryz.sizeOf28, h0, hB, hE]
  by_cases hxy : xs = ys <;> cases b <;> cases c <;> simp [hxy]

theorem pfx_eq {b c : Bool} {xs ys : List Nat} (p q : Int) (hx : Bytes xs) (hy : Bytes ys) (w : World) : Sem.run Tryz.prog (Op.equalIn 10000 40 (.agg (pfx b xs p).toArray) (.agg (pfx c ys q).toArray)) w = .ok (decide ((b = c ∧ xs = ys) ∧ p = q)) w := by
  have hS : Tryz.prog.underlying 40 = some (.struct (Tryz.prog.fieldsOf 40)) := by kernel_rfl
  have hF : Tryz.prog.fieldsOf 40 = #[{ name := "Addr", type := 30, offset := 0, embedded := false, tag := "", pkgPath := "", byteOffset := 0 }, { name := "Bits", type := 3, offset := 17, embedded := false, tag := "", pkgPath := "", byteOffset := 24 }] := by kernel_rfl
  have hex : ∀ (b : Bool) (xs : List Nat) (p : Int), Bytes xs → (pfx b xs p).toArray.extract 0 17 = (adr b xs).toArray := by
    intro b xs p hx
    apply Array.ext'
    simp [pfx]
    rw [List.take_append_of_le_length (by rw [adr_length, hx.1]; omega), List.take_of_length_le (by rw [adr_length, hx.1]; omega)]
  have h18 : ∀ (b : Bool) (xs : List Nat) (p : Int), Bytes xs → (pfx b xs p).toArray[17]? = some (.int .i64 p) := fun b xs p hx => by
    rw [List.getElem?_toArray, pfx, List.getElem?_append_right (by rw [adr_length, hx.1]; omega), adr_length, hx.1]; rfl
  have h1 := adr_eq9 (b := b) (c := c) hx hy w
  have hI : Sem.run Tryz.prog (Op.equalIn 9999 3 (.int .i64 p) (.int .i64 q)) w = .ok (p == q) w := run_equalIn_int w 9998 3 _ _ p q Tryz.underlying3
  rw [show (10000 : Nat) = 9999 + 1 from rfl, run_equalIn_agg w 9999 40 _ _ hS Tryz.stoodInHeld40, hF]
  have e1 := hex b xs p hx
  have e2 := hex c ys q hy
  have p1 := h18 b xs p hx
  have p2 := h18 c ys q hy
  generalize (pfx b xs p).toArray = T1 at e1 p1 ⊢
  generalize (pfx c ys q).toArray = T2 at e2 p2 ⊢
  simp [Op.eqFields, Go.part, Tryz.isAgg30, Tryz.isAgg3, Tryz.sizeOf30, p1, p2, e1, e2, h1, hI]
  by_cases hb : b = c <;> by_cases ha : xs = ys <;> by_cases hp : p = q <;> simp [hb, ha, hp]

theorem pofT_len (b : Bool) {xs : List Nat} (n : Int) (hx : Bytes xs) : (pofT b xs n).toArray.size = 18 ∧ ∀ u ∈ (pofT b xs n).toArray.toList, u.oneCell' = true := by
  unfold pofT
  split
  · exact ⟨by rw [List.size_toArray]; exact pfx_length (pofX_bytes hx n).1, by intro u hu; exact pfx_one _ _ _ u (by simpa using hu)⟩
  · exact ⟨rfl, by intro u hu; exact pfx_one _ _ _ u (by simpa [noP] using hu)⟩

set_option maxHeartbeats 4000000 in
set_option maxRecDepth 100000 in
theorem cont_any (b c : Bool) (xs ys : List Nat) (n : Int) (hx : Bytes xs) (hy : Bytes ys) (w : World) :
    Calls Tryz.prog 21 #[.agg (pfx b xs n).toArray, .agg (adr c ys).toArray] w fun e w' => e = .returned (.bool (contP b xs n c ys)) ∧ Fr No w w' := by
  rw [cont_eq hx hy]
  obtain ⟨Z, hZ⟩ : ∃ Z : Array Value, noP.toArray = Z := ⟨_, rfl⟩
  have v40 := zero40
  rw [hZ] at v40
  have hz18 : Z.size = 18 := by rw [← hZ]; rfl
  obtain ⟨P, hP0, -, hP17, hPs, -, hP1⟩ := pfx_letter b xs n hx
  obtain ⟨A, hA, h0, hsz, -⟩ := adr_letter c ys hy
  obtain ⟨Q, hQ⟩ : ∃ Q, (pofT c ys n).toArray = Q := ⟨_, rfl⟩
  have hQl := pofT_len c n hy
  have HPO : Hid (∀ w', Calls Tryz.prog 59 #[.agg A, .int .i64 n] w' fun e w'' => e = .returned (.tuple #[.agg Q, .bool (pofB c ys n)]) ∧ Fr No w' w'') := fun w' => by rw [← hA, ← hQ]; exact pof_any c ys n hy w'
  rw [hQ] at hQl
  have hQs := hQl.1
  have HEQ : Hid (pofB c ys n = true → ∀ w, Sem.run Tryz.prog (Op.equalIn 10000 40 (.agg P) (.agg Q)) w = .ok (decide (b = c ∧ xs = pofX c ys n)) w) := fun h w => by
    rw [← hQ, ← hP0, pofT, if_pos h, pfx_eq n n hx (pofX_bytes hy n) w]
    simp
  have HQ := Lib.hid hQl
  rw [hP0, hA]
  obtain ⟨b1, b2, hF⟩ := alloc2 w (.cells P 40) (.cells A 30)
  have HB : Hid (((w.alloc (.cells P 40)).alloc (.cells A 30)).heap[w.heap.size]? = some (.cells P 40 (0, 0)) ∧ ((w.alloc (.cells P 40)).alloc (.cells A 30)).heap[w.heap.size + 1]? = some (.cells A 30 (0, 0)) ∧ Fr No w ((w.alloc (.cells P 40)).alloc (.cells A 30))) := ⟨b1, b2, hF⟩
  have c17 : ((w.alloc (.cells P 40)).alloc (.cells A 30)).cell? ⟨w.heap.size, 17, none⟩ = some (.int .i64 n) := by rw [cell_of_row _ _ _ _ _ _ b1]; exact hP17
  have q40 := Tryz.eqGuardType40
  clear b1 b2 hF hZ hP0 hA hQ hQl hx hy hP1 hP17
  generalize decide (b = c ∧ xs = pofX c ys n) = eq at HEQ ⊢
  generalize pofB c ys n = ok at HPO HEQ ⊢
  cases ok
  · go_enter Tryz.func21, Tryz.ntmps21
    have t3 := Tryz.underlying3
    have u3 := Tryz.runUnderlying3
    have g3 := Tryz.isAgg3
    have z3 := Tryz.sizeOf3
    have t4 := Tryz.underlying4
    have u4 := Tryz.runUnderlying4
    have g4 := Tryz.isAgg4
    have z4 := Tryz.sizeOf4
    have t30 := Tryz.underlying30
    have u30 := Tryz.runUnderlying30
    have g30 := Tryz.isAgg30
    have z30 := Tryz.sizeOf30
    have t40 := Tryz.underlying40
    have u40 := Tryz.runUnderlying40
    have g40 := Tryz.isAgg40
    have z40 := Tryz.sizeOf40
    have c59 := Tryz.call59
    have mixed : Tryz.prog.follows .mixedOrders = true := by kernel_rfl
    obtain ⟨k30, hk30⟩ : ∃ k, k = 17 := ⟨_, rfl⟩
    rw [← hk30] at z30
    have nk30 : ¬ k30 = 0 := by omega
    have HK30 := Lib.hid hk30
    obtain ⟨k40, hk40⟩ : ∃ k, k = 18 := ⟨_, rfl⟩
    rw [← hk40] at z40
    have nk40 : ¬ k40 = 0 := by omega
    have HK40 := Lib.hid hk40
    have hP : Tryz.prog = PD := rfl
    rw [hP] at t3 u3 g3 z3 t4 u4 g4 z4 t30 u30 g30 z30 t40 u40 g40 z40 c59 mixed v40 ⊢
    have HP := Lib.hid hP.symm
    clear hP hk30 hk40
    have hAk : A.size = k30 := by rw [HK30.out]; exact hsz
    have hPk : P.size = k40 := by rw [HK40.out]; exact hPs
    have hZk : Z.size = k40 := by rw [HK40.out]; exact hz18
    have hQk : Q.size = k40 := by rw [HK40.out]; exact hQs
    have hl0 : Sem.run PD (loadCellsFrom ⟨w.heap.size + 1, 0, none⟩ 0 k30 #[]) ((w.alloc (.cells P 40)).alloc (.cells A 30)) = .ok A ((w.alloc (.cells P 40)).alloc (.cells A 30)) := load_block HB.out.2.1 hAk (fun j v hv => by simpa using hv)
    clear hsz hPs hz18 hQs
    go_wp2_with (first | (go_at_call 59; refine (at_prog HP.out (HPO.out _)).mono ?_; rintro e w3 ⟨rfl, hf3⟩; obtain ⟨y, hst, hyb, hyf⟩ := store_all (P := PD) Q.toList (heap_alloc_new w3 (.cells Z 40)) (by rw [Array.length_toList, hQk, hZk]) HQ.out.2) | fail)
    go_ret
    exact ⟨rfl, ((HB.out.2.2.trans hf3).trans (Fr.alloc _ _ _)).ofNew hyf fun k hk => .inr (by rw [hk]; exact (HB.out.2.2.trans hf3).size)⟩
  · have hEQ := HEQ.out rfl
    go_enter Tryz.func21, Tryz.ntmps21
    have t3 := Tryz.underlying3
    have u3 := Tryz.runUnderlying3
    have g3 := Tryz.isAgg3
    have z3 := Tryz.sizeOf3
    have t4 := Tryz.underlying4
    have u4 := Tryz.runUnderlying4
    have g4 := Tryz.isAgg4
    have z4 := Tryz.sizeOf4
    have t30 := Tryz.underlying30
    have u30 := Tryz.runUnderlying30
    have g30 := Tryz.isAgg30
    have z30 := Tryz.sizeOf30
    have t40 := Tryz.underlying40
    have u40 := Tryz.runUnderlying40
    have g40 := Tryz.isAgg40
    have z40 := Tryz.sizeOf40
    have c59 := Tryz.call59
    have mixed : Tryz.prog.follows .mixedOrders = true := by kernel_rfl
    obtain ⟨k30, hk30⟩ : ∃ k, k = 17 := ⟨_, rfl⟩
    rw [← hk30] at z30
    have nk30 : ¬ k30 = 0 := by omega
    have HK30 := Lib.hid hk30
    obtain ⟨k40, hk40⟩ : ∃ k, k = 18 := ⟨_, rfl⟩
    rw [← hk40] at z40
    have nk40 : ¬ k40 = 0 := by omega
    have HK40 := Lib.hid hk40
    have hP : Tryz.prog = PD := rfl
    rw [hP] at t3 u3 g3 z3 t4 u4 g4 z4 t30 u30 g30 z30 t40 u40 g40 z40 c59 mixed v40 hEQ q40 ⊢
    have HP := Lib.hid hP.symm
    clear hP hk30 hk40
    have hAk : A.size = k30 := by rw [HK30.out]; exact hsz
    have hPk : P.size = k40 := by rw [HK40.out]; exact hPs
    have hZk : Z.size = k40 := by rw [HK40.out]; exact hz18
    have hQk : Q.size = k40 := by rw [HK40.out]; exact hQs
    have hl0 : Sem.run PD (loadCellsFrom ⟨w.heap.size + 1, 0, none⟩ 0 k30 #[]) ((w.alloc (.cells P 40)).alloc (.cells A 30)) = .ok A ((w.alloc (.cells P 40)).alloc (.cells A 30)) := load_block HB.out.2.1 hAk (fun j v hv => by simpa using hv)
    clear hsz hPs hz18 hQs
    go_wp2_with (first | (go_at_call 59; refine (at_prog HP.out (HPO.out _)).mono ?_; rintro e w3 ⟨rfl, hf3⟩; obtain ⟨y, hst, hyb, hyf⟩ := store_all (P := PD) Q.toList (heap_alloc_new w3 (.cells Z 40)) (by rw [Array.length_toList, hQk, hZk]) HQ.out.2; have hy0 : y.heap[w.heap.size]? = some (.cells P 40 (0, 0)) := by
        { have k1 := (Fr.alloc No w3 (.cells Z 40)).keep (hf3.keep HB.out.1)
          have k0 := (Array.getElem?_eq_some_iff.1 (hf3.keep HB.out.1)).1
          exact (hyf.block _ (Array.getElem?_eq_some_iff.1 k1).1 (by omega)).trans k1 }; have hl1 : Sem.run PD (loadCellsFrom ⟨w.heap.size, 0, none⟩ 0 k40 #[]) y = .ok P y := load_block hy0 hPk (fun j v hv => by simpa using hv); have hl2 : Sem.run PD (loadCellsFrom ⟨w3.heap.size, 0, none⟩ 0 k40 #[]) y = .ok Q y := load_block hyb hQk (fun j v hv => by simpa using hv)) | fail)
    go_ret
    exact ⟨rfl, ((HB.out.2.2.trans hf3).trans (Fr.alloc _ _ _)).ofNew hyf fun k hk => .inr (by rw [hk]; exact (HB.out.2.2.trans hf3).size)⟩
end Go.Proofs.YtmhnailcmlomiaaGreatDoor
