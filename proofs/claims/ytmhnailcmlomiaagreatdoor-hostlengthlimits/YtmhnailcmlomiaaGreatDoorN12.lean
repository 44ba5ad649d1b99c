/-
  CONTRACTS of package host's Valid and formatHost, over this seat's translation: what each call returns.
  Conditions: the address is one; the package variables are as Gl says.
  CONTRACT of package host's Format, over this seat's translation: what the call returns.
  Conditions: the address is one; the package variables are as Gl says.
-/
import Derived.Test.YtmhnailcmlomiaaGreatDoorN8
import Derived.Test.YtmhnailcmlomiaaGreatDoorA
import Derived.Test.YtmhnailcmlomiaaGreatDoorPg
namespace Go.Proofs.YtmhnailcmlomiaaGreatDoor
open Go.ChangeShapes Go.WideShapes Go.ChangeAt Go.RowKit
set_option linter.unusedVariables false

theorem tgt_letter (n : ByteArray) (b : Bool) (xs : List Nat) (p : Int) (hx : Bytes xs) : ∃ T : Array Value, (tgt n b xs p).toArray = T ∧ T[0]? = some (.string n) ∧ T[1]? = some (.bool b) ∧ T[18]? = some (.int .i64 p) ∧ T.size = 19 ∧ (∀ j v, (adr b xs).toArray[j]? = some v → T[1 + j]? = some v) ∧ ∀ u ∈ T.toList, u.oneCell' = true := by
  have h17 : (adr b xs).length = 17 := by rw [adr_length, hx.1]
  refine ⟨_, rfl, rfl, rfl, ?_, by rw [List.size_toArray]; exact tgt_length _ _ _ _ hx.1, ?_, by intro u hu; exact tgt_one _ _ _ _ u (by simpa using hu)⟩
  · rw [List.getElem?_toArray, tgt, List.getElem?_cons_succ, List.getElem?_append_right (by omega), h17]; rfl
  · intro j v hj
    rw [List.getElem?_toArray] at hj ⊢
    rw [tgt, Nat.add_comm, List.getElem?_cons_succ]
    rw [List.getElem?_append_left (List.getElem?_eq_some_iff.1 hj).1]
    exact hj

/-- Whether a target is valid. -/
def vT (nl : List UInt8) (b : Bool) (xs : List Nat) (p : Int) : Bool := decide (1 ≤ p) && decide (p ≤ 65535) && (if nl = [] then validA b xs else nameV nl && decide (b = false ∧ xs = zeros))
theorem bs_empty (l : List UInt8) : (bs l).toList.isEmpty = decide (l = []) := by
  rw [bs_toList]; cases l <;> rfl

set_option maxHeartbeats 4000000 in
set_option maxRecDepth 100000 in
theorem valid_t (nl : List UInt8) (b : Bool) (xs : List Nat) (p : Int) (hx : Bytes xs) (w : World) :
    Calls Tryz.prog 12 #[.agg (tgt (bs nl) b xs p).toArray] w fun e w' => e = .returned (.bool (vT nl b xs p)) ∧ Fr No w w' := by
  obtain ⟨T, hT, h0, h1, h18, hs19, hT2, hT1⟩ := tgt_letter (bs nl) b xs p hx
  rw [hT]
  clear hT h1
  have hb1 := heap_alloc_new w (.cells T 32)
  have c0 : (w.alloc (.cells T 32)).cell? ⟨w.heap.size, 0, none⟩ = some (.string (bs nl)) := by rw [cell_of_row _ _ _ _ _ _ hb1]; exact h0
  have c18 : (w.alloc (.cells T 32)).cell? ⟨w.heap.size, 18, none⟩ = some (.int .i64 p) := by rw [cell_of_row _ _ _ _ _ _ hb1]; exact h18
  have hF := Fr.alloc No w (.cells T 32)
  by_cases hp1 : p < 1
  · have HV : Hid (vT nl b xs p = false) := by show _ = _; unfold vT; rw [decide_eq_false (by omega : ¬ 1 ≤ p)]; rfl
    clear hT2 hb1 hT1 h0 h18
    go_enter Tryz.func12, Tryz.ntmps12
    have t3 := Tryz.underlying3
    have u3 := Tryz.runUnderlying3
    have g3 := Tryz.isAgg3
    have z3 := Tryz.sizeOf3
    have t4 := Tryz.underlying4
    have u4 := Tryz.runUnderlying4
    have g4 := Tryz.isAgg4
    have z4 := Tryz.sizeOf4
    have t9 := Tryz.underlying9
    have u9 := Tryz.runUnderlying9
    have g9 := Tryz.isAgg9
    have z9 := Tryz.sizeOf9
    have t30 := Tryz.underlying30
    have u30 := Tryz.runUnderlying30
    have g30 := Tryz.isAgg30
    have z30 := Tryz.sizeOf30
    have t32 := Tryz.underlying32
    have u32 := Tryz.runUnderlying32
    have g32 := Tryz.isAgg32
    have z32 := Tryz.sizeOf32
    have c44 := Tryz.call44
    have c45 := Tryz.call45
    have mixed : Tryz.prog.follows .mixedOrders = true := by kernel_rfl
    obtain ⟨k24, hk24⟩ : ∃ k, k = 17 := ⟨_, rfl⟩
    rw [← hk24] at z30
    have nk24 : ¬ k24 = 0 := by omega
    have HK30 := Lib.hid hk24
    obtain ⟨k62, hk62⟩ : ∃ k, k = 19 := ⟨_, rfl⟩
    rw [← hk62] at z32
    have nk62 : ¬ k62 = 0 := by omega
    have HK32 := Lib.hid hk62
    have hP : Tryz.prog = PD := rfl
    rw [hP] at t3 u3 g3 z3 t4 u4 g4 z4 t9 u9 g9 z9 t30 u30 g30 z30 t32 u32 g32 z32 c44 c45 mixed ⊢
    have HP := Lib.hid hP.symm
    clear hP hk24 hk62
    have hTk : T.size = k62 := by rw [HK32.out]; exact hs19
    go_wp2_with fail
    go_ret
    exact ⟨by rw [HV.out]; rfl, hF⟩
  · by_cases hp2 : 65535 < p
    · have HV : Hid (vT nl b xs p = false) := by show _ = _; unfold vT; rw [decide_eq_false (by omega : ¬ p ≤ 65535)]; simp
      clear hT2 hb1 hT1 h0 h18
      go_enter Tryz.func12, Tryz.ntmps12
      have t3 := Tryz.underlying3
      have u3 := Tryz.runUnderlying3
      have g3 := Tryz.isAgg3
      have z3 := Tryz.sizeOf3
      have t4 := Tryz.underlying4
      have u4 := Tryz.runUnderlying4
      have g4 := Tryz.isAgg4
      have z4 := Tryz.sizeOf4
      have t9 := Tryz.underlying9
      have u9 := Tryz.runUnderlying9
      have g9 := Tryz.isAgg9
      have z9 := Tryz.sizeOf9
      have t30 := Tryz.underlying30
      have u30 := Tryz.runUnderlying30
      have g30 := Tryz.isAgg30
      have z30 := Tryz.sizeOf30
      have t32 := Tryz.underlying32
      have u32 := Tryz.runUnderlying32
      have g32 := Tryz.isAgg32
      have z32 := Tryz.sizeOf32
      have c44 := Tryz.call44
      have c45 := Tryz.call45
      have mixed : Tryz.prog.follows .mixedOrders = true := by kernel_rfl
      obtain ⟨k24, hk24⟩ : ∃ k, k = 17 := ⟨_, rfl⟩
      rw [← hk24] at z30
      have nk24 : ¬ k24 = 0 := by omega
      have HK30 := Lib.hid hk24
      obtain ⟨k62, hk62⟩ : ∃ k, k = 19 := ⟨_, rfl⟩
      rw [← hk62] at z32
      have nk62 : ¬ k62 = 0 := by omega
      have HK32 := Lib.hid hk62
      have hP : Tryz.prog = PD := rfl
      rw [hP] at t3 u3 g3 z3 t4 u4 g4 z4 t9 u9 g9 z9 t30 u30 g30 z30 t32 u32 g32 z32 c44 c45 mixed ⊢
      have HP := Lib.hid hP.symm
      clear hP hk24 hk62
      have hTk : T.size = k62 := by rw [HK32.out]; exact hs19
      go_wp2_with fail
      go_ret
      exact ⟨by rw [HV.out]; rfl, hF⟩
    · have hV : vT nl b xs p = (if nl = [] then validA b xs else nameV nl && decide (b = false ∧ xs = zeros)) := by unfold vT; rw [decide_eq_true (by omega : 1 ≤ p), decide_eq_true (by omega : p ≤ 65535)]; rfl
      have HV := Lib.hid hV
      clear hV
      obtain ⟨A, hA, -, hA17, -⟩ := adr_letter b xs hx
      rw [hA] at hT2
      have hAl : Sem.run Tryz.prog (loadCellsFrom ⟨w.heap.size, 1, none⟩ 0 17 #[]) (w.alloc (.cells T 32)) = .ok A (w.alloc (.cells T 32)) := load_block hb1 hA17 hT2
      have HVA : Hid (∀ w', Calls Tryz.prog 44 #[.agg A] w' fun e w'' => e = .returned (.bool (validA b xs)) ∧ Fr No w' w'') := fun w' => by rw [← hA]; exact valid_any b xs hx w'
      have HNM := Lib.hid (name_any nl)
      have hemp := bs_empty nl
      obtain ⟨Y, hY⟩ : ∃ Y : Array Value, (adr false zeros).toArray = Y := ⟨_, rfl⟩
      have v24 := zero30
      have hE : ∀ w, Sem.run Tryz.prog (Op.equalIn 10000 30 (.agg A) (.agg Y)) w = .ok (decide (b = false ∧ xs = zeros)) w := fun w => by rw [← hA, ← hY]; exact adr_eq hx zeros_bytes w
      have hYA : Y.size = A.size := by rw [hA17, ← hY]; rfl
      rw [hY] at v24
      generalize decide (b = false ∧ xs = zeros) = be at hE HV
      generalize validA b xs = bv at HVA HV
      generalize nameV nl = bn at HNM HV
      have q24 := Tryz.eqGuardType30
      clear hA hY hT2 hb1 hT1 h0 h18
      by_cases hn : nl = []
      · have HV2 : Hid (vT nl b xs p = bv) := by show _ = _; rw [HV.out, if_pos hn]
        rw [decide_eq_true hn] at hemp
        generalize bs nl = s at c0 HNM hemp
        clear hn HV
        go_enter Tryz.func12, Tryz.ntmps12
        have t3 := Tryz.underlying3
        have u3 := Tryz.runUnderlying3
        have g3 := Tryz.isAgg3
        have z3 := Tryz.sizeOf3
        have t4 := Tryz.underlying4
        have u4 := Tryz.runUnderlying4
        have g4 := Tryz.isAgg4
        have z4 := Tryz.sizeOf4
        have t9 := Tryz.underlying9
        have u9 := Tryz.runUnderlying9
        have g9 := Tryz.isAgg9
        have z9 := Tryz.sizeOf9
        have t28 := Tryz.underlying28
        have u28 := Tryz.runUnderlying28
        have g28 := Tryz.isAgg28
        have z28 := Tryz.sizeOf28
        have t30 := Tryz.underlying30
        have u30 := Tryz.runUnderlying30
        have g30 := Tryz.isAgg30
        have z30 := Tryz.sizeOf30
        have t32 := Tryz.underlying32
        have u32 := Tryz.runUnderlying32
        have g32 := Tryz.isAgg32
        have z32 := Tryz.sizeOf32
        have c44 := Tryz.call44
        have c45 := Tryz.call45
        have mixed : Tryz.prog.follows .mixedOrders = true := by kernel_rfl
        obtain ⟨k24, hk24⟩ : ∃ k, k = 17 := ⟨_, rfl⟩
        rw [← hk24] at z30
        have nk24 : ¬ k24 = 0 := by omega
        have HK30 := Lib.hid hk24
        obtain ⟨k62, hk62⟩ : ∃ k, k = 19 := ⟨_, rfl⟩
        rw [← hk62] at z32
        have nk62 : ¬ k62 = 0 := by omega
        have HK32 := Lib.hid hk62
        have hP : Tryz.prog = PD := rfl
        rw [hP] at t3 u3 g3 z3 t4 u4 g4 z4 t9 u9 g9 z9 t28 u28 g28 z28 t30 u30 g30 z30 t32 u32 g32 z32 c44 c45 mixed hE v24 q24 ⊢
        have HP := Lib.hid hP.symm
        clear hP hk24 hk62
        have hTk : T.size = k62 := by rw [HK32.out]; exact hs19
        have hAk : A.size = k24 := by rw [HK30.out]; exact hA17
        have hld : Sem.run PD (loadCellsFrom ⟨w.heap.size, 1, none⟩ 0 k24 #[]) (w.alloc (.cells T 32)) = .ok A (w.alloc (.cells T 32)) := by rw [HK30.out]; exact hAl
        go_wp2_with (first | (go_at_call 44; refine (at_prog HP.out (HVA.out _)).mono ?_; rintro e w3 ⟨rfl, hf3⟩) | fail)
        go_ret
        exact ⟨by rw [HV2.out]; rfl, hF.trans hf3⟩
      · have HV2 : Hid (vT nl b xs p = (bn && be)) := by show _ = _; rw [HV.out, if_neg hn]
        rw [decide_eq_false hn] at hemp
        generalize bs nl = s at c0 HNM hemp
        clear hn HV
        cases bn
        · go_enter Tryz.func12, Tryz.ntmps12
          have t3 := Tryz.underlying3
          have u3 := Tryz.runUnderlying3
          have g3 := Tryz.isAgg3
          have z3 := Tryz.sizeOf3
          have t4 := Tryz.underlying4
          have u4 := Tryz.runUnderlying4
          have g4 := Tryz.isAgg4
          have z4 := Tryz.sizeOf4
          have t9 := Tryz.underlying9
          have u9 := Tryz.runUnderlying9
          have g9 := Tryz.isAgg9
          have z9 := Tryz.sizeOf9
          have t28 := Tryz.underlying28
          have u28 := Tryz.runUnderlying28
          have g28 := Tryz.isAgg28
          have z28 := Tryz.sizeOf28
          have t30 := Tryz.underlying30
          have u30 := Tryz.runUnderlying30
          have g30 := Tryz.isAgg30
          have z30 := Tryz.sizeOf30
          have t32 := Tryz.underlying32
          have u32 := Tryz.runUnderlying32
          have g32 := Tryz.isAgg32
          have z32 := Tryz.sizeOf32
          have c44 := Tryz.call44
          have c45 := Tryz.call45
          have mixed : Tryz.prog.follows .mixedOrders = true := by kernel_rfl
          obtain ⟨k24, hk24⟩ : ∃ k, k = 17 := ⟨_, rfl⟩
          rw [← hk24] at z30
          have nk24 : ¬ k24 = 0 := by omega
          have HK30 := Lib.hid hk24
          obtain ⟨k62, hk62⟩ : ∃ k, k = 19 := ⟨_, rfl⟩
          rw [← hk62] at z32
          have nk62 : ¬ k62 = 0 := by omega
          have HK32 := Lib.hid hk62
          have hP : Tryz.prog = PD := rfl
          rw [hP] at t3 u3 g3 z3 t4 u4 g4 z4 t9 u9 g9 z9 t28 u28 g28 z28 t30 u30 g30 z30 t32 u32 g32 z32 c44 c45 mixed hE v24 q24 ⊢
          have HP := Lib.hid hP.symm
          clear hP hk24 hk62
          have hTk : T.size = k62 := by rw [HK32.out]; exact hs19
          have hAk : A.size = k24 := by rw [HK30.out]; exact hA17
          have hld : Sem.run PD (loadCellsFrom ⟨w.heap.size, 1, none⟩ 0 k24 #[]) (w.alloc (.cells T 32)) = .ok A (w.alloc (.cells T 32)) := by rw [HK30.out]; exact hAl
          go_wp2_with (first | (go_at_call 45; refine (at_prog HP.out (HNM.out _)).mono ?_; rintro e w3 ⟨rfl, hw3⟩; subst hw3) | fail)
          go_ret
          exact ⟨by rw [HV2.out]; rfl, hF⟩
        · go_enter Tryz.func12, Tryz.ntmps12
          have t3 := Tryz.underlying3
          have u3 := Tryz.runUnderlying3
          have g3 := Tryz.isAgg3
          have z3 := Tryz.sizeOf3
          have t4 := Tryz.underlying4
          have u4 := Tryz.runUnderlying4
          have g4 := Tryz.isAgg4
          have z4 := Tryz.sizeOf4
          have t9 := Tryz.underlying9
          have u9 := Tryz.runUnderlying9
          have g9 := Tryz.isAgg9
          have z9 := Tryz.sizeOf9
          have t28 := Tryz.underlying28
          have u28 := Tryz.runUnderlying28
          have g28 := Tryz.isAgg28
          have z28 := Tryz.sizeOf28
          have t30 := Tryz.underlying30
          have u30 := Tryz.runUnderlying30
          have g30 := Tryz.isAgg30
          have z30 := Tryz.sizeOf30
          have t32 := Tryz.underlying32
          have u32 := Tryz.runUnderlying32
          have g32 := Tryz.isAgg32
          have z32 := Tryz.sizeOf32
          have c44 := Tryz.call44
          have c45 := Tryz.call45
          have mixed : Tryz.prog.follows .mixedOrders = true := by kernel_rfl
          obtain ⟨k24, hk24⟩ : ∃ k, k = 17 := ⟨_, rfl⟩
          rw [← hk24] at z30
          have nk24 : ¬ k24 = 0 := by omega
          have HK30 := Lib.hid hk24
          obtain ⟨k62, hk62⟩ : ∃ k, k = 19 := ⟨_, rfl⟩
          rw [← hk62] at z32
          have nk62 : ¬ k62 = 0 := by omega
          have HK32 := Lib.hid hk62
          have hP : Tryz.prog = PD := rfl
          rw [hP] at t3 u3 g3 z3 t4 u4 g4 z4 t9 u9 g9 z9 t28 u28 g28 z28 t30 u30 g30 z30 t32 u32 g32 z32 c44 c45 mixed hE v24 q24 ⊢
          have HP := Lib.hid hP.symm
          clear hP hk24 hk62
          have hTk : T.size = k62 := by rw [HK32.out]; exact hs19
          have hAk : A.size = k24 := by rw [HK30.out]; exact hA17
          have hYk : Y.size = k24 := by rw [hYA]; exact hAk
          have hld : Sem.run PD (loadCellsFrom ⟨w.heap.size, 1, none⟩ 0 k24 #[]) (w.alloc (.cells T 32)) = .ok A (w.alloc (.cells T 32)) := by rw [HK30.out]; exact hAl
          go_wp2_with (first | (go_at_call 45; refine (at_prog HP.out (HNM.out _)).mono ?_; rintro e w3 ⟨rfl, hw3⟩; subst hw3) | fail)
          go_ret
          exact ⟨by rw [HV2.out]; rfl, hF⟩

/-- What stands before the port. -/
def fhV (nl : List UInt8) (b : Bool) (xs : List Nat) : List UInt8 := if nl = [] then (if b then 91 :: (oct8 (fmtA b xs) ++ [93]) else oct8 (fmtA b xs)) else nl
theorem bs_app (a b : List UInt8) : bs a ++ bs b = bs (a ++ b) := by
  apply ByteArray.ext
  apply Array.toList_inj.1
  simp [bs]

set_option maxHeartbeats 4000000 in
set_option maxRecDepth 100000 in
theorem fhost_any (nl : List UInt8) (b : Bool) (xs : List Nat) (p : Int) (hx : Bytes xs) (w : World) (hG : Gl w) :
    Calls Tryz.prog 48 #[.agg (tgt (bs nl) b xs p).toArray] w fun e w' => e = .returned (.string (bs (fhV nl b xs))) ∧ Fr No w w' := by
  obtain ⟨T, hT, h0, h1, h18, hs19, hT2, hT1⟩ := tgt_letter (bs nl) b xs p hx
  rw [hT]
  clear hT h18
  have hb1 := heap_alloc_new w (.cells T 32)
  have c0 : (w.alloc (.cells T 32)).cell? ⟨w.heap.size, 0, none⟩ = some (.string (bs nl)) := by rw [cell_of_row _ _ _ _ _ _ hb1]; exact h0
  have c1 : (w.alloc (.cells T 32)).cell? ⟨w.heap.size, 1, none⟩ = some (.bool b) := by rw [cell_of_row _ _ _ _ _ _ hb1]; exact h1
  have hF := Fr.alloc No w (.cells T 32)
  obtain ⟨A, hA, -, hA17, -⟩ := adr_letter b xs hx
  rw [hA] at hT2
  have hAl : Sem.run Tryz.prog (loadCellsFrom ⟨w.heap.size, 1, none⟩ 0 17 #[]) (w.alloc (.cells T 32)) = .ok A (w.alloc (.cells T 32)) := load_block hb1 hA17 hT2
  have HFM : Hid (∀ w', Gl w' → Calls Tryz.prog 64 #[.agg A] w' fun e w'' => e = .returned (.string (bs (oct8 (fmtA b xs)))) ∧ Fr No w' w'') := fun w' h => by rw [← hA, ← str_oct]; exact format_any b xs hx w' h
  have hG1 := Lib.hid (hG.fr hF)
  have hemp := bs_empty nl
  have hsz : (bs (oct8 (fmtA b xs))).size ≤ 100 := by rw [bs_size, oct8_length]; exact fmtA_length hx
  have hap1 : (⟨#[91]⟩ : ByteArray) ++ bs (oct8 (fmtA b xs)) = bs (91 :: oct8 (fmtA b xs)) := bs_app [91] _
  have hap2 : bs (91 :: oct8 (fmtA b xs)) ++ (⟨#[93]⟩ : ByteArray) = bs (91 :: (oct8 (fmtA b xs) ++ [93])) := bs_app _ [93]
  have hsz2 : (bs (91 :: oct8 (fmtA b xs))).size ≤ 101 := by rw [bs_size, List.length_cons, oct8_length]; have := fmtA_length (b := b) hx; omega
  clear hA hT2 hb1 hT1 h0 h1
  by_cases hn : nl = []
  · rw [decide_eq_true hn] at hemp
    generalize bs nl = s at c0 hemp
    cases b
    · have HV : Hid (bs (fhV nl false xs) = bs (oct8 (fmtA false xs))) := by show _ = _; unfold fhV; rw [if_pos hn]; rfl
      generalize bs (oct8 (fmtA false xs)) = f at HFM HV hsz hap1
      clear hn hap1 hap2 hsz2
      go_enter Tryz.func48, Tryz.ntmps48
      have t3 := Tryz.underlying3
      have u3 := Tryz.runUnderlying3
      have g3 := Tryz.isAgg3
      have z3 := Tryz.sizeOf3
      have t4 := Tryz.underlying4
      have u4 := Tryz.runUnderlying4
      have g4 := Tryz.isAgg4
      have z4 := Tryz.sizeOf4
      have t9 := Tryz.underlying9
      have u9 := Tryz.runUnderlying9
      have g9 := Tryz.isAgg9
      have z9 := Tryz.sizeOf9
      have t30 := Tryz.underlying30
      have u30 := Tryz.runUnderlying30
      have g30 := Tryz.isAgg30
      have z30 := Tryz.sizeOf30
      have t32 := Tryz.underlying32
      have u32 := Tryz.runUnderlying32
      have g32 := Tryz.isAgg32
      have z32 := Tryz.sizeOf32
      have c64 := Tryz.call64
      have mixed : Tryz.prog.follows .mixedOrders = true := by kernel_rfl
      obtain ⟨k24, hk24⟩ : ∃ k, k = 17 := ⟨_, rfl⟩
      rw [← hk24] at z30
      have nk24 : ¬ k24 = 0 := by omega
      have HK30 := Lib.hid hk24
      obtain ⟨k62, hk62⟩ : ∃ k, k = 19 := ⟨_, rfl⟩
      rw [← hk62] at z32
      have nk62 : ¬ k62 = 0 := by omega
      have HK32 := Lib.hid hk62
      have hP : Tryz.prog = PD := rfl
      rw [hP] at t3 u3 g3 z3 t4 u4 g4 z4 t9 u9 g9 z9 t30 u30 g30 z30 t32 u32 g32 z32 c64 mixed ⊢
      have HP := Lib.hid hP.symm
      clear hP hk24 hk62
      have hTk : T.size = k62 := by rw [HK32.out]; exact hs19
      have hAk : A.size = k24 := by rw [HK30.out]; exact hA17
      have hld : Sem.run PD (loadCellsFrom ⟨w.heap.size, 1, none⟩ 0 k24 #[]) (w.alloc (.cells T 32)) = .ok A (w.alloc (.cells T 32)) := by rw [HK30.out]; exact hAl
      go_wp2_with (first | (go_at_call 64; refine (at_prog HP.out (HFM.out _ hG1.out)).mono ?_; rintro e w3 ⟨rfl, hf3⟩) | fail)
      go_ret
      exact ⟨by rw [HV.out]; rfl, hF.trans hf3⟩
    · have HV : Hid (bs (fhV nl true xs) = bs (91 :: (oct8 (fmtA true xs) ++ [93]))) := by show _ = _; unfold fhV; rw [if_pos hn]; rfl
      generalize bs (oct8 (fmtA true xs)) = f at HFM hsz hap1
      generalize bs (91 :: oct8 (fmtA true xs)) = f1 at hap1 hap2 hsz2
      generalize bs (91 :: (oct8 (fmtA true xs) ++ [93])) = f2 at hap2 HV
      obtain ⟨z1, hz1⟩ : ∃ z1, f.size = z1 := ⟨_, rfl⟩
      obtain ⟨z2, hz2⟩ : ∃ z2, f1.size = z2 := ⟨_, rfl⟩
      rw [hz1] at hsz
      rw [hz2] at hsz2
      clear hn
      go_enter Tryz.func48, Tryz.ntmps48
      have t3 := Tryz.underlying3
      have u3 := Tryz.runUnderlying3
      have g3 := Tryz.isAgg3
      have z3 := Tryz.sizeOf3
      have t4 := Tryz.underlying4
      have u4 := Tryz.runUnderlying4
      have g4 := Tryz.isAgg4
      have z4 := Tryz.sizeOf4
      have t9 := Tryz.underlying9
      have u9 := Tryz.runUnderlying9
      have g9 := Tryz.isAgg9
      have z9 := Tryz.sizeOf9
      have t30 := Tryz.underlying30
      have u30 := Tryz.runUnderlying30
      have g30 := Tryz.isAgg30
      have z30 := Tryz.sizeOf30
      have t32 := Tryz.underlying32
      have u32 := Tryz.runUnderlying32
      have g32 := Tryz.isAgg32
      have z32 := Tryz.sizeOf32
      have c64 := Tryz.call64
      have mixed : Tryz.prog.follows .mixedOrders = true := by kernel_rfl
      obtain ⟨k24, hk24⟩ : ∃ k, k = 17 := ⟨_, rfl⟩
      rw [← hk24] at z30
      have nk24 : ¬ k24 = 0 := by omega
      have HK30 := Lib.hid hk24
      obtain ⟨k62, hk62⟩ : ∃ k, k = 19 := ⟨_, rfl⟩
      rw [← hk62] at z32
      have nk62 : ¬ k62 = 0 := by omega
      have HK32 := Lib.hid hk62
      have hP : Tryz.prog = PD := rfl
      rw [hP] at t3 u3 g3 z3 t4 u4 g4 z4 t9 u9 g9 z9 t30 u30 g30 z30 t32 u32 g32 z32 c64 mixed ⊢
      have HP := Lib.hid hP.symm
      clear hP hk24 hk62
      have hTk : T.size = k62 := by rw [HK32.out]; exact hs19
      have hAk : A.size = k24 := by rw [HK30.out]; exact hA17
      have hld : Sem.run PD (loadCellsFrom ⟨w.heap.size, 1, none⟩ 0 k24 #[]) (w.alloc (.cells T 32)) = .ok A (w.alloc (.cells T 32)) := by rw [HK30.out]; exact hAl
      go_wp2_with (first | (go_at_call 64; refine (at_prog HP.out (HFM.out _ hG1.out)).mono ?_; rintro e w3 ⟨rfl, hf3⟩) | fail)
      go_ret
      exact ⟨by rw [HV.out]; rfl, hF.trans hf3⟩
  · have HV : Hid (fhV nl b xs = nl) := by show _ = _; unfold fhV; rw [if_neg hn]
    rw [decide_eq_false hn] at hemp
    rw [HV.out]
    generalize bs nl = s at c0 hemp ⊢
    clear hn hap1 hap2 hsz2 hsz
    go_enter Tryz.func48, Tryz.ntmps48
    have t3 := Tryz.underlying3
    have u3 := Tryz.runUnderlying3
    have g3 := Tryz.isAgg3
    have z3 := Tryz.sizeOf3
    have t4 := Tryz.underlying4
    have u4 := Tryz.runUnderlying4
    have g4 := Tryz.isAgg4
    have z4 := Tryz.sizeOf4
    have t9 := Tryz.underlying9
    have u9 := Tryz.runUnderlying9
    have g9 := Tryz.isAgg9
    have z9 := Tryz.sizeOf9
    have t30 := Tryz.underlying30
    have u30 := Tryz.runUnderlying30
    have g30 := Tryz.isAgg30
    have z30 := Tryz.sizeOf30
    have t32 := Tryz.underlying32
    have u32 := Tryz.runUnderlying32
    have g32 := Tryz.isAgg32
    have z32 := Tryz.sizeOf32
    have c64 := Tryz.call64
    have mixed : Tryz.prog.follows .mixedOrders = true := by kernel_rfl
    obtain ⟨k24, hk24⟩ : ∃ k, k = 17 := ⟨_, rfl⟩
    rw [← hk24] at z30
    have nk24 : ¬ k24 = 0 := by omega
    have HK30 := Lib.hid hk24
    obtain ⟨k62, hk62⟩ : ∃ k, k = 19 := ⟨_, rfl⟩
    rw [← hk62] at z32
    have nk62 : ¬ k62 = 0 := by omega
    have HK32 := Lib.hid hk62
    have hP : Tryz.prog = PD := rfl
    rw [hP] at t3 u3 g3 z3 t4 u4 g4 z4 t9 u9 g9 z9 t30 u30 g30 z30 t32 u32 g32 z32 c64 mixed ⊢
    have HP := Lib.hid hP.symm
    clear hP hk24 hk62
    have hTk : T.size = k62 := by rw [HK32.out]; exact hs19
    go_wp2_with fail
    go_ret
    exact ⟨rfl, hF⟩
end Go.Proofs.YtmhnailcmlomiaaGreatDoor
namespace Go.Proofs.YtmhnailcmlomiaaGreatDoor
open Go.ChangeShapes Go.WideShapes Go.ChangeAt Go.RowKit
set_option linter.unusedVariables false

/-- The notation of a target. -/
def fT (nl : List UInt8) (b : Bool) (xs : List Nat) (p : Int) : List UInt8 := if vT nl b xs p then fhV nl b xs ++ 58 :: oct8 (decN p.toNat) else []

theorem itoa_big (x : Nat) (hx : x < 4294967296) (w : World) (hG : Gl w) : Calls Tryz.prog 49 #[.int .i64 x] w fun e w' => e = .returned (.string (str (decN x))) ∧ Fr No w w' := by
  refine (Tryz.strconv_Itoa (x : Int) (by omega) (by omega) w hG.tab).mono ?_
  rintro e w' ⟨rfl, k, os, rfl⟩
  refine ⟨?_, ?_⟩
  · rw [Lib.itoa, if_neg (by omega), show ((x : Nat) : Int).toNat = x by omega, decN_digits]; rfl
  · exact (Fr.drewN No w k).trans ⟨rfl, rfl, rfl, by simp [Go.Sort.grow], fun j hj _ => by
      have hj' : j < w.heap.size := hj
      simp [Go.Sort.grow, Array.getElem?_append]
      omega⟩
theorem decN_len (n : Nat) : (decN n).length ≤ n + 1 := by
  induction n using Nat.strongRecOn with
  | ind n ih =>
    by_cases h : n < 10
    · rw [decN_small h]; simp
    · have := ih (n / 10) (by omega)
      rw [decN_big (by omega), List.length_append]; simp; omega
theorem nameV_len {l : List UInt8} (h : nameV l = true) : l.length ≤ 253 := by
  unfold nameV at h
  simp at h
  exact h.1.1
theorem vT_parts {nl : List UInt8} {b : Bool} {xs : List Nat} {p : Int} (h : vT nl b xs p = true) (hx : Bytes xs) : 1 ≤ p ∧ p ≤ 65535 ∧ (fhV nl b xs).length ≤ 253 := by
  unfold vT at h
  simp only [Bool.and_eq_true, decide_eq_true_eq] at h
  refine ⟨h.1.1, h.1.2, ?_⟩
  have hf := fmtA_length (b := b) hx
  unfold fhV
  by_cases hn : nl = []
  · rw [if_pos hn]
    split
    · simp [oct8_length]; omega
    · rw [oct8_length]; omega
  · rw [if_neg hn]
    have h2 := h.2
    rw [if_neg hn, Bool.and_eq_true] at h2
    exact nameV_len h2.1

set_option maxHeartbeats 8000000 in
set_option maxRecDepth 100000 in
theorem format_t (nl : List UInt8) (b : Bool) (xs : List Nat) (p : Int) (hx : Bytes xs) (w : World) (hG : Gl w) :
    Calls Tryz.prog 14 #[.agg (tgt (bs nl) b xs p).toArray] w fun e w' => e = .returned (.string (bs (fT nl b xs p))) ∧ Fr No w w' := by
  have HV0 : Hid (∀ w', Calls Tryz.prog 12 #[.agg (tgt (bs nl) b xs p).toArray] w' fun e w'' => e = .returned (.bool (vT nl b xs p)) ∧ Fr No w' w'') := fun w' => valid_t nl b xs p hx w'
  have HF0 : Hid (∀ w', Gl w' → Calls Tryz.prog 48 #[.agg (tgt (bs nl) b xs p).toArray] w' fun e w'' => e = .returned (.string (bs (fhV nl b xs))) ∧ Fr No w' w'') := fun w' h => fhost_any nl b xs p hx w' h
  obtain ⟨T, hT, -, -, h18, hs19, -, hT1⟩ := tgt_letter (bs nl) b xs p hx
  rw [hT] at HV0 HF0 ⊢
  clear hT
  have hb1 := heap_alloc_new w (.cells T 32)
  have hl1 : Sem.run Tryz.prog (loadCellsFrom ⟨w.heap.size, 0, none⟩ 0 19 #[]) (w.alloc (.cells T 32)) = .ok T (w.alloc (.cells T 32)) := load_block hb1 hs19 (fun j v hv => by simpa using hv)
  have hF := Fr.alloc No w (.cells T 32)
  have HB := Lib.hid (And.intro hb1 (And.intro h18 (And.intro hF (And.intro hs19 hG))))
  clear hb1 h18 hT1 hF hG
  cases hv : vT nl b xs p with
  | false =>
    have HV : Hid (fT nl b xs p = []) := by show _ = _; rw [fT, if_neg (by rw [hv]; simp)]
    rw [hv] at HV0
    clear hv HF0
    go_enter Tryz.func14, Tryz.ntmps14
    have t3 := Tryz.underlying3
    have u3 := Tryz.runUnderlying3
    have g3 := Tryz.isAgg3
    have z3 := Tryz.sizeOf3
    have t9 := Tryz.underlying9
    have u9 := Tryz.runUnderlying9
    have g9 := Tryz.isAgg9
    have z9 := Tryz.sizeOf9
    have t32 := Tryz.underlying32
    have u32 := Tryz.runUnderlying32
    have g32 := Tryz.isAgg32
    have z32 := Tryz.sizeOf32
    have c12 := Tryz.call12
    have c48 := Tryz.call48
    have c49 := Tryz.call49
    have mixed : Tryz.prog.follows .mixedOrders = true := by kernel_rfl
    obtain ⟨k62, hk62⟩ : ∃ k, k = 19 := ⟨_, rfl⟩
    rw [← hk62] at z32
    have nk62 : ¬ k62 = 0 := by omega
    have HK32 := Lib.hid hk62
    have hP : Tryz.prog = PD := rfl
    rw [hP] at t3 u3 g3 z3 t9 u9 g9 z9 t32 u32 g32 z32 c12 c48 c49 mixed ⊢
    have HP := Lib.hid hP.symm
    clear hP hk62
    have hTk : T.size = k62 := by rw [HK32.out]; exact hs19
    have hld : Sem.run PD (loadCellsFrom ⟨w.heap.size, 0, none⟩ 0 k62 #[]) (w.alloc (.cells T 32)) = .ok T (w.alloc (.cells T 32)) := by rw [HK32.out]; exact hl1
    clear hl1 hs19
    go_wp2_with (first | (go_at_call 12; refine (at_prog HP.out (HV0.out _)).mono ?_; rintro e w3 ⟨rfl, hf3⟩) | fail)
    go_ret
    exact ⟨by rw [HV.out]; rfl, HB.out.2.2.1.trans hf3⟩
  | true =>
    obtain ⟨hp1, hp2, hlen⟩ := vT_parts hv hx
    have HV : Hid (fT nl b xs p = fhV nl b xs ++ 58 :: oct8 (decN p.toNat)) := by show _ = _; rw [fT, if_pos hv]
    have HIT : Hid (∀ w', Gl w' → Calls Tryz.prog 49 #[.int .i64 p] w' fun e w'' => e = .returned (.string (bs (oct8 (decN p.toNat)))) ∧ Fr No w' w'') := fun w' h => by
      have h1 := itoa_big p.toNat (by omega) w' h
      rw [show ((p.toNat : Nat) : Int) = p by omega] at h1
      exact h1
    have hz1 : (bs (fhV nl b xs)).size ≤ 253 := by rw [bs_size]; exact hlen
    have hz2 : (bs (fhV nl b xs ++ [58])).size ≤ 254 := by rw [bs_size, List.length_append]; simp; omega
    have hz3 : (bs (oct8 (decN p.toNat))).size ≤ 70000 := by rw [bs_size, oct8_length]; have := decN_len p.toNat; omega
    have hap1 : bs (fhV nl b xs) ++ (⟨#[58]⟩ : ByteArray) = bs (fhV nl b xs ++ [58]) := bs_app _ [58]
    have hap2 : bs (fhV nl b xs ++ [58]) ++ bs (oct8 (decN p.toNat)) = bs (fT nl b xs p) := by rw [bs_app, HV.out]; simp
    rw [hv] at HV0
    generalize bs (fT nl b xs p) = R at hap2 ⊢
    generalize bs (fhV nl b xs ++ [58]) = f2 at hap1 hap2 hz2
    generalize bs (fhV nl b xs) = f1 at hap1 HF0 hz1
    generalize bs (oct8 (decN p.toNat)) = f3 at hap2 HIT hz3
    have g1 : ¬ 9223372036854775807 < f1.size + 1 := by omega
    have g2 : ¬ 9223372036854775807 < f2.size + f3.size := by omega
    have g3 : ¬ 9223372036854775807 < f1.size + 1 + f3.size := by omega
    clear hz1 hz2 hz3
    clear hv HV hlen
    go_enter Tryz.func14, Tryz.ntmps14
    have t3 := Tryz.underlying3
    have u3 := Tryz.runUnderlying3
    have g3 := Tryz.isAgg3
    have z3 := Tryz.sizeOf3
    have t9 := Tryz.underlying9
    have u9 := Tryz.runUnderlying9
    have g9 := Tryz.isAgg9
    have z9 := Tryz.sizeOf9
    have t32 := Tryz.underlying32
    have u32 := Tryz.runUnderlying32
    have g32 := Tryz.isAgg32
    have z32 := Tryz.sizeOf32
    have c12 := Tryz.call12
    have c48 := Tryz.call48
    have c49 := Tryz.call49
    have mixed : Tryz.prog.follows .mixedOrders = true := by kernel_rfl
    obtain ⟨k62, hk62⟩ : ∃ k, k = 19 := ⟨_, rfl⟩
    rw [← hk62] at z32
    have nk62 : ¬ k62 = 0 := by omega
    have HK32 := Lib.hid hk62
    have hP : Tryz.prog = PD := rfl
    rw [hP] at t3 u3 g3 z3 t9 u9 g9 z9 t32 u32 g32 z32 c12 c48 c49 mixed ⊢
    have HP := Lib.hid hP.symm
    clear hP hk62
    have hTk : T.size = k62 := by rw [HK32.out]; exact hs19
    have hld : Sem.run PD (loadCellsFrom ⟨w.heap.size, 0, none⟩ 0 k62 #[]) (w.alloc (.cells T 32)) = .ok T (w.alloc (.cells T 32)) := by rw [HK32.out]; exact hl1
    clear hl1 hs19
    go_wp2_with (first | (go_at_call 12; refine (at_prog HP.out (HV0.out _)).mono ?_; rintro e w3 ⟨rfl, hf3⟩) | fail)
    have F3 := Lib.hid (HB.out.2.2.1.trans hf3)
    have HLD : Hid (∀ w', Fr No w3 w' → Sem.run PD (loadCellsFrom ⟨w.heap.size, 0, none⟩ 0 k62 #[]) w' = .ok T w' ∧ w'.cell? ⟨w.heap.size, 18, none⟩ = some (.int .i64 p)) := fun w' hf => by
      have hb := (hf3.trans hf).keep HB.out.1
      exact ⟨load_block hb hTk (fun j v hv => by simpa using hv), by rw [cell_of_row _ _ _ _ _ _ hb]; exact HB.out.2.1⟩
    clear hf3 hld
    generalize w.heap.size = nb at HLD ⊢
    have f5 : Fr No w3 w3.drew := Fr.drew No _
    have m := (HLD.out _ f5).1
    have mm := (HLD.out _ f5).2
    have HG := Lib.hid HB.out.2.2.2.2
    go_region_held3 (fun w' => Sem.run PD (loadCellsFrom ⟨nb, 0, none⟩ 0 k62 #[]) w' = .ok T w' ∧ w'.cell? ⟨nb, 18, none⟩ = some (.int .i64 p)) (constructor <;> assumption) (first | (go_at_call 48; with_reducible refine (at_prog HP.out (HF0.out w3.drew (HG.out.fr (F3.out.trans f5)))).mono ?_; rintro e x0 ⟨rfl, h0⟩; have g0 := f5.trans h0; have m0 := (HLD.out _ g0).1; have n0 := (HLD.out _ g0).2; clear h0) | (go_at_call 49; with_reducible refine (at_prog HP.out (HIT.out w3.drew (HG.out.fr (F3.out.trans f5)))).mono ?_; rintro e x1 ⟨rfl, h1⟩; have g1 := f5.trans h1; have m1 := (HLD.out _ g1).1; have n1 := (HLD.out _ g1).2; clear h1) | (go_at_call 49; with_reducible refine (at_prog HP.out (HIT.out x0 (HG.out.fr (F3.out.trans g0)))).mono ?_; rintro e x2 ⟨rfl, h2⟩; have g2 := g0.trans h2; have m2 := (HLD.out _ g2).1; have n2 := (HLD.out _ g2).2; clear h2) | (go_at_call 48; with_reducible refine (at_prog HP.out (HF0.out x1 (HG.out.fr (F3.out.trans g1)))).mono ?_; rintro e x2 ⟨rfl, h2⟩; have g2 := g1.trans h2; have m2 := (HLD.out _ g2).1; have n2 := (HLD.out _ g2).2; clear h2))
    all_goals (
      go_wp2_with fail
      go_ret
      exact ⟨rfl, F3.out.trans g2⟩)
end Go.Proofs.YtmhnailcmlomiaaGreatDoor
