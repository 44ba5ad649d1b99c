/-
  CONTRACTS of package host's Valid and formatHost, over this seat's translation: what each call returns.
  Conditions: the address is one; the package variables are as Gl says.
-/
import Derived.Test.YtdnfmilihfkhmaaDoorN8
import Derived.Test.YtdnfmilihfkhmaaDoorV2
import Derived.Test.YtdnfmilihfkhmaaDoorPg
namespace Go.Proofs.YtdnfmilihfkhmaaDoor
open Go.ChangeShapes Go.WideShapes Go.ChangeAt Go.RowKit
set_option linter.unusedVariables false

theorem tgt_letter (n : ByteArray) (b : Bool) (xs : List Nat) (p : Int) (hx : Bytes xs) : ∃ T : Array Value, (tgt n b xs p).toArray = T ∧ T[0]? = some (.string n) ∧ T[1]? = some (.bool b) ∧ T[18]? = some (.int .i64 p) ∧ T.size = 19 ∧ (∀ j v, (adr b xs).toArray[j]? = some v → T[1 + j]? = some v) ∧ ∀ u ∈ T.toList, u.oneCell' = true := by
  have h17 : (adr b xs).length = 17 := by rw [adr_length, hx.1]
  refine ⟨_, rfl, rfl, rfl, ?_, by rw [List.size_toArray]; exact tgt_length _ _ _ _ hx.1, ?_, by intro u hu; exact tgt_one _ _ _ _ u (by simpa using hu)⟩
  · rw [List.getElem?_toArray, tgt, List.getElem?_cons_succ, List.getElem?_append_right (by omega), h17]; rfl
  · intro j v hj
    rw [List.getElem?_toArray] at hj ⊢
    rw [tgt, Nat.add_comm, List.getElem?_cons_succ]
    rw [List.getElem?_append_left (List.getElem?_eq_some_iff.1 hj).1]
    exact hj

/-- Whether a target is valid. -/
def vT (nl : List UInt8) (b : Bool) (xs : List Nat) (p : Int) : Bool := decide (1 ≤ p) && decide (p ≤ 65535) && (if nl = [] then validA b xs else nameV nl && decide (b = false ∧ xs = zeros))
theorem bs_empty (l : List UInt8) : (bs l).toList.isEmpty = decide (l = []) := by
  rw [bs_toList]; cases l <;> rfl

set_option maxHeartbeats 4000000 in
set_option maxRecDepth 100000 in
theorem valid_t (nl : List UInt8) (b : Bool) (xs : List Nat) (p : Int) (hx : Bytes xs) (w : World) :
    Calls Tryd.prog 55 #[.agg (tgt (bs nl) b xs p).toArray] w fun e w' => e = .returned (.bool (vT nl b xs p)) ∧ Fr No w w' := by
  obtain ⟨T, hT, h0, h1, h18, hs19, hT2, hT1⟩ := tgt_letter (bs nl) b xs p hx
  rw [hT]
  clear hT h1
  have hb1 := heap_alloc_new w (.cells T 62)
  have c0 : (w.alloc (.cells T 62)).cell? ⟨w.heap.size, 0, none⟩ = some (.string (bs nl)) := by rw [cell_of_row _ _ _ _ _ _ hb1]; exact h0
  have c18 : (w.alloc (.cells T 62)).cell? ⟨w.heap.size, 18, none⟩ = some (.int .i64 p) := by rw [cell_of_row _ _ _ _ _ _ hb1]; exact h18
  have hF := Fr.alloc No w (.cells T 62)
  by_cases hp1 : p < 1
  · have HV : Hid (vT nl b xs p = false) := by show _ = _; unfold vT; rw [decide_eq_false (by omega : ¬ 1 ≤ p)]; rfl
    clear hT2 hb1 hT1 h0 h18
    go_enter Tryd.func55, Tryd.ntmps55
    have t3 := Tryd.underlying3
    have u3 := Tryd.runUnderlying3
    have g3 := Tryd.isAgg3
    have z3 := Tryd.sizeOf3
    have t4 := Tryd.underlying4
    have u4 := Tryd.runUnderlying4
    have g4 := Tryd.isAgg4
    have z4 := Tryd.sizeOf4
    have t9 := Tryd.underlying9
    have u9 := Tryd.runUnderlying9
    have g9 := Tryd.isAgg9
    have z9 := Tryd.sizeOf9
    have t24 := Tryd.underlying24
    have u24 := Tryd.runUnderlying24
    have g24 := Tryd.isAgg24
    have z24 := Tryd.sizeOf24
    have t62 := Tryd.underlying62
    have u62 := Tryd.runUnderlying62
    have g62 := Tryd.isAgg62
    have z62 := Tryd.sizeOf62
    have c13 := Tryd.call13
    have c50 := Tryd.call50
    have mixed : Tryd.prog.follows .mixedOrders = true := by kernel_rfl
    obtain ⟨k24, hk24⟩ : ∃ k, k = 17 := ⟨_, rfl⟩
    rw [← hk24] at z24
    have nk24 : ¬ k24 = 0 := by omega
    have HK24 := Lib.hid hk24
    obtain ⟨k62, hk62⟩ : ∃ k, k = 19 := ⟨_, rfl⟩
    rw [← hk62] at z62
    have nk62 : ¬ k62 = 0 := by omega
    have HK62 := Lib.hid hk62
    have hP : Tryd.prog = PD := rfl
    rw [hP] at t3 u3 g3 z3 t4 u4 g4 z4 t9 u9 g9 z9 t24 u24 g24 z24 t62 u62 g62 z62 c13 c50 mixed ⊢
    have HP := Lib.hid hP.symm
    clear hP hk24 hk62
    have hTk : T.size = k62 := by rw [HK62.out]; exact hs19
    go_wp2_with fail
    go_ret
    exact ⟨by rw [HV.out]; rfl, hF⟩
  · by_cases hp2 : 65535 < p
    · have HV : Hid (vT nl b xs p = false) := by show _ = _; unfold vT; rw [decide_eq_false (by omega : ¬ p ≤ 65535)]; simp
      clear hT2 hb1 hT1 h0 h18
      go_enter Tryd.func55, Tryd.ntmps55
      have t3 := Tryd.underlying3
      have u3 := Tryd.runUnderlying3
      have g3 := Tryd.isAgg3
      have z3 := Tryd.sizeOf3
      have t4 := Tryd.underlying4
      have u4 := Tryd.runUnderlying4
      have g4 := Tryd.isAgg4
      have z4 := Tryd.sizeOf4
      have t9 := Tryd.underlying9
      have u9 := Tryd.runUnderlying9
      have g9 := Tryd.isAgg9
      have z9 := Tryd.sizeOf9
      have t24 := Tryd.underlying24
      have u24 := Tryd.runUnderlying24
      have g24 := Tryd.isAgg24
      have z24 := Tryd.sizeOf24
      have t62 := Tryd.underlying62
      have u62 := Tryd.runUnderlying62
      have g62 := Tryd.isAgg62
      have z62 := Tryd.sizeOf62
      have c13 := Tryd.call13
      have c50 := Tryd.call50
      have mixed : Tryd.prog.follows .mixedOrders = true := by kernel_rfl
      obtain ⟨k24, hk24⟩ : ∃ k, k = 17 := ⟨_, rfl⟩
      rw [← hk24] at z24
      have nk24 : ¬ k24 = 0 := by omega
      have HK24 := Lib.hid hk24
      obtain ⟨k62, hk62⟩ : ∃ k, k = 19 := ⟨_, rfl⟩
      rw [← hk62] at z62
      have nk62 : ¬ k62 = 0 := by omega
      have HK62 := Lib.hid hk62
      have hP : Tryd.prog = PD := rfl
      rw [hP] at t3 u3 g3 z3 t4 u4 g4 z4 t9 u9 g9 z9 t24 u24 g24 z24 t62 u62 g62 z62 c13 c50 mixed ⊢
      have HP := Lib.hid hP.symm
      clear hP hk24 hk62
      have hTk : T.size = k62 := by rw [HK62.out]; exact hs19
      go_wp2_with fail
      go_ret
      exact ⟨by rw [HV.out]; rfl, hF⟩
    · have hV : vT nl b xs p = (if nl = [] then validA b xs else nameV nl && decide (b = false ∧ xs = zeros)) := by unfold vT; rw [decide_eq_true (by omega : 1 ≤ p), decide_eq_true (by omega : p ≤ 65535)]; rfl
      have HV := Lib.hid hV
      clear hV
      obtain ⟨A, hA, -, hA17, -⟩ := adr_letter b xs hx
      rw [hA] at hT2
      have hAl : Sem.run Tryd.prog (loadCellsFrom ⟨w.heap.size, 1, none⟩ 0 17 #[]) (w.alloc (.cells T 62)) = .ok A (w.alloc (.cells T 62)) := load_block hb1 hA17 hT2
      have HVA : Hid (∀ w', Calls Tryd.prog 13 #[.agg A] w' fun e w'' => e = .returned (.bool (validA b xs)) ∧ Fr No w' w'') := fun w' => by rw [← hA]; exact valid_any b xs hx w'
      have HNM := Lib.hid (name_any nl)
      have hemp := bs_empty nl
      obtain ⟨Y, hY⟩ : ∃ Y : Array Value, (adr false zeros).toArray = Y := ⟨_, rfl⟩
      have v24 := zero24
      have hE : ∀ w, Sem.run Tryd.prog (Op.equalIn 10000 24 (.agg A) (.agg Y)) w = .ok (decide (b = false ∧ xs = zeros)) w := fun w => by rw [← hA, ← hY]; exact adr_eq hx zeros_bytes w
      have hYA : Y.size = A.size := by rw [hA17, ← hY]; rfl
      rw [hY] at v24
      generalize decide (b = false ∧ xs = zeros) = be at hE HV
      generalize validA b xs = bv at HVA HV
      generalize nameV nl = bn at HNM HV
      have q24 := Tryd.eqGuardType24
      clear hA hY hT2 hb1 hT1 h0 h18
      by_cases hn : nl = []
      · have HV2 : Hid (vT nl b xs p = bv) := by show _ = _; rw [HV.out, if_pos hn]
        rw [decide_eq_true hn] at hemp
        generalize bs nl = s at c0 HNM hemp
        clear hn HV
        go_enter Tryd.func55, Tryd.ntmps55
        have t3 := Tryd.underlying3
        have u3 := Tryd.runUnderlying3
        have g3 := Tryd.isAgg3
        have z3 := Tryd.sizeOf3
        have t4 := Tryd.underlying4
        have u4 := Tryd.runUnderlying4
        have g4 := Tryd.isAgg4
        have z4 := Tryd.sizeOf4
        have t9 := Tryd.underlying9
        have u9 := Tryd.runUnderlying9
        have g9 := Tryd.isAgg9
        have z9 := Tryd.sizeOf9
        have t22 := Tryd.underlying22
        have u22 := Tryd.runUnderlying22
        have g22 := Tryd.isAgg22
        have z22 := Tryd.sizeOf22
        have t24 := Tryd.underlying24
        have u24 := Tryd.runUnderlying24
        have g24 := Tryd.isAgg24
        have z24 := Tryd.sizeOf24
        have t62 := Tryd.underlying62
        have u62 := Tryd.runUnderlying62
        have g62 := Tryd.isAgg62
        have z62 := Tryd.sizeOf62
        have c13 := Tryd.call13
        have c50 := Tryd.call50
        have mixed : Tryd.prog.follows .mixedOrders = true := by kernel_rfl
        obtain ⟨k24, hk24⟩ : ∃ k, k = 17 := ⟨_, rfl⟩
        rw [← hk24] at z24
        have nk24 : ¬ k24 = 0 := by omega
        have HK24 := Lib.hid hk24
        obtain ⟨k62, hk62⟩ : ∃ k, k = 19 := ⟨_, rfl⟩
        rw [← hk62] at z62
        have nk62 : ¬ k62 = 0 := by omega
        have HK62 := Lib.hid hk62
        have hP : Tryd.prog = PD := rfl
        rw [hP] at t3 u3 g3 z3 t4 u4 g4 z4 t9 u9 g9 z9 t22 u22 g22 z22 t24 u24 g24 z24 t62 u62 g62 z62 c13 c50 mixed hE v24 q24 ⊢
        have HP := Lib.hid hP.symm
        clear hP hk24 hk62
        have hTk : T.size = k62 := by rw [HK62.out]; exact hs19
        have hAk : A.size = k24 := by rw [HK24.out]; exact hA17
        have hld : Sem.run PD (loadCellsFrom ⟨w.heap.size, 1, none⟩ 0 k24 #[]) (w.alloc (.cells T 62)) = .ok A (w.alloc (.cells T 62)) := by rw [HK24.out]; exact hAl
        go_wp2_with (first | (go_at_call 13; refine (at_prog HP.out (HVA.out _)).mono ?_; rintro e w3 ⟨rfl, hf3⟩) | fail)
        go_ret
        exact ⟨by rw [HV2.out]; rfl, hF.trans hf3⟩
      · have HV2 : Hid (vT nl b xs p = (bn && be)) := by show _ = _; rw [HV.out, if_neg hn]
        rw [decide_eq_false hn] at hemp
        generalize bs nl = s at c0 HNM hemp
        clear hn HV
        cases bn
        · go_enter Tryd.func55, Tryd.ntmps55
          have t3 := Tryd.underlying3
          have u3 := Tryd.runUnderlying3
          have g3 := Tryd.isAgg3
          have z3 := Tryd.sizeOf3
          have t4 := Tryd.underlying4
          have u4 := Tryd.runUnderlying4
          have g4 := Tryd.isAgg4
          have z4 := Tryd.sizeOf4
          have t9 := Tryd.underlying9
          have u9 := Tryd.runUnderlying9
          have g9 := Tryd.isAgg9
          have z9 := Tryd.sizeOf9
          have t22 := Tryd.underlying22
          have u22 := Tryd.runUnderlying22
          have g22 := Tryd.isAgg22
          have z22 := Tryd.sizeOf22
          have t24 := Tryd.underlying24
          have u24 := Tryd.runUnderlying24
          have g24 := Tryd.isAgg24
          have z24 := Tryd.sizeOf24
          have t62 := Tryd.underlying62
          have u62 := Tryd.runUnderlying62
          have g62 := Tryd.isAgg62
          have z62 := Tryd.sizeOf62
          have c13 := Tryd.call13
          have c50 := Tryd.call50
          have mixed : Tryd.prog.follows .mixedOrders = true := by kernel_rfl
          obtain ⟨k24, hk24⟩ : ∃ k, k = 17 := ⟨_, rfl⟩
          rw [← hk24] at z24
          have nk24 : ¬ k24 = 0 := by omega
          have HK24 := Lib.hid hk24
          obtain ⟨k62, hk62⟩ : ∃ k, k = 19 := ⟨_, rfl⟩
          rw [← hk62] at z62
          have nk62 : ¬ k62 = 0 := by omega
          have HK62 := Lib.hid hk62
          have hP : Tryd.prog = PD := rfl
          rw [hP] at t3 u3 g3 z3 t4 u4 g4 z4 t9 u9 g9 z9 t22 u22 g22 z22 t24 u24 g24 z24 t62 u62 g62 z62 c13 c50 mixed hE v24 q24 ⊢
          have HP := Lib.hid hP.symm
          clear hP hk24 hk62
          have hTk : T.size = k62 := by rw [HK62.out]; exact hs19
          have hAk : A.size = k24 := by rw [HK24.out]; exact hA17
          have hld : Sem.run PD (loadCellsFrom ⟨w.heap.size, 1, none⟩ 0 k24 #[]) (w.alloc (.cells T 62)) = .ok A (w.alloc (.cells T 62)) := by rw [HK24.out]; exact hAl
          go_wp2_with (first | (go_at_call 50; refine (at_prog HP.out (HNM.out _)).mono ?_; rintro e w3 ⟨rfl, hw3⟩; subst hw3) | fail)
          go_ret
          exact ⟨by rw [HV2.out]; rfl, hF⟩
        · go_enter Tryd.func55, Tryd.ntmps55
          have t3 := Tryd.underlying3
          have u3 := Tryd.runUnderlying3
          have g3 := Tryd.isAgg3
          have z3 := Tryd.sizeOf3
          have t4 := Tryd.underlying4
          have u4 := Tryd.runUnderlying4
          have g4 := Tryd.isAgg4
          have z4 := Tryd.sizeOf4
          have t9 := Tryd.underlying9
          have u9 := Tryd.runUnderlying9
          have g9 := Tryd.isAgg9
          have z9 := Tryd.sizeOf9
          have t22 := Tryd.underlying22
          have u22 := Tryd.runUnderlying22
          have g22 := Tryd.isAgg22
          have z22 := Tryd.sizeOf22
          have t24 := Tryd.underlying24
          have u24 := Tryd.runUnderlying24
          have g24 := Tryd.isAgg24
          have z24 := Tryd.sizeOf24
          have t62 := Tryd.underlying62
          have u62 := Tryd.runUnderlying62
          have g62 := Tryd.isAgg62
          have z62 := Tryd.sizeOf62
          have c13 := Tryd.call13
          have c50 := Tryd.call50
          have mixed : Tryd.prog.follows .mixedOrders = true := by kernel_rfl
          obtain ⟨k24, hk24⟩ : ∃ k, k = 17 := ⟨_, rfl⟩
          rw [← hk24] at z24
          have nk24 : ¬ k24 = 0 := by omega
          have HK24 := Lib.hid hk24
          obtain ⟨k62, hk62⟩ : ∃ k, k = 19 := ⟨_, rfl⟩
          rw [← hk62] at z62
          have nk62 : ¬ k62 = 0 := by omega
          have HK62 := Lib.hid hk62
          have hP : Tryd.prog = PD := rfl
          rw [hP] at t3 u3 g3 z3 t4 u4 g4 z4 t9 u9 g9 z9 t22 u22 g22 z22 t24 u24 g24 z24 t62 u62 g62 z62 c13 c50 mixed hE v24 q24 ⊢
          have HP := Lib.hid hP.symm
          clear hP hk24 hk62
          have hTk : T.size = k62 := by rw [HK62.out]; exact hs19
          have hAk : A.size = k24 := by rw [HK24.out]; exact hA17
          have hYk : Y.size = k24 := by rw [hYA]; exact hAk
          have hld : Sem.run PD (loadCellsFrom ⟨w.heap.size, 1, none⟩ 0 k24 #[]) (w.alloc (.cells T 62)) = .ok A (w.alloc (.cells T 62)) := by rw [HK24.out]; exact hAl
          go_wp2_with (first | (go_at_call 50; refine (at_prog HP.out (HNM.out _)).mono ?_; rintro e w3 ⟨rfl, hw3⟩; subst hw3) | fail)
          go_ret
          exact ⟨by rw [HV2.out]; rfl, hF⟩

/-- What stands before the port. -/
def fhV (nl : List UInt8) (b : Bool) (xs : List Nat) : List UInt8 := if nl = [] then (if b then 91 :: (oct8 (fmtA b xs) ++ [93]) else oct8 (fmtA b xs)) else nl
theorem bs_app (a b : List UInt8) : bs a ++ bs b = bs (a ++ b) := by
  apply ByteArray.ext
  apply Array.toList_inj.1
  simp [bs]

set_option maxHeartbeats 4000000 in
set_option maxRecDepth 100000 in
theorem fhost_any (nl : List UInt8) (b : Bool) (xs : List Nat) (p : Int) (hx : Bytes xs) (w : World) (hG : Gl w) :
    Calls Tryd.prog 79 #[.agg (tgt (bs nl) b xs p).toArray] w fun e w' => e = .returned (.string (bs (fhV nl b xs))) ∧ Fr No w w' := by
  obtain ⟨T, hT, h0, h1, h18, hs19, hT2, hT1⟩ := tgt_letter (bs nl) b xs p hx
  rw [hT]
  clear hT h18
  have hb1 := heap_alloc_new w (.cells T 62)
  have c0 : (w.alloc (.cells T 62)).cell? ⟨w.heap.size, 0, none⟩ = some (.string (bs nl)) := by rw [cell_of_row _ _ _ _ _ _ hb1]; exact h0
  have c1 : (w.alloc (.cells T 62)).cell? ⟨w.heap.size, 1, none⟩ = some (.bool b) := by rw [cell_of_row _ _ _ _ _ _ hb1]; exact h1
  have hF := Fr.alloc No w (.cells T 62)
  obtain ⟨A, hA, -, hA17, -⟩ := adr_letter b xs hx
  rw [hA] at hT2
  have hAl : Sem.run Tryd.prog (loadCellsFrom ⟨w.heap.size, 1, none⟩ 0 17 #[]) (w.alloc (.cells T 62)) = .ok A (w.alloc (.cells T 62)) := load_block hb1 hA17 hT2
  have HFM : Hid (∀ w', Gl w' → Calls Tryd.prog 11 #[.agg A] w' fun e w'' => e = .returned (.string (bs (oct8 (fmtA b xs)))) ∧ Fr No w' w'') := fun w' h => by rw [← hA, ← str_oct]; exact format_any b xs hx w' h
  have hG1 := Lib.hid (hG.fr hF)
  have hemp := bs_empty nl
  have hsz : (bs (oct8 (fmtA b xs))).size ≤ 100 := by rw [bs_size, oct8_length]; exact fmtA_length hx
  have hap1 : (⟨#[91]⟩ : ByteArray) ++ bs (oct8 (fmtA b xs)) = bs (91 :: oct8 (fmtA b xs)) := bs_app [91] _
  have hap2 : bs (91 :: oct8 (fmtA b xs)) ++ (⟨#[93]⟩ : ByteArray) = bs (91 :: (oct8 (fmtA b xs) ++ [93])) := bs_app _ [93]
  have hsz2 : (bs (91 :: oct8 (fmtA b xs))).size ≤ 101 := by rw [bs_size, List.length_cons, oct8_length]; have := fmtA_length (b := b) hx; omega
  clear hA hT2 hb1 hT1 h0 h1
  by_cases hn : nl = []
  · rw [decide_eq_true hn] at hemp
    generalize bs nl = s at c0 hemp
    cases b
    · have HV : Hid (bs (fhV nl false xs) = bs (oct8 (fmtA false xs))) := by show _ = _; unfold fhV; rw [if_pos hn]; rfl
      generalize bs (oct8 (fmtA false xs)) = f at HFM HV hsz hap1
      clear hn hap1 hap2 hsz2
      go_enter Tryd.func79, Tryd.ntmps79
      have t3 := Tryd.underlying3
      have u3 := Tryd.runUnderlying3
      have g3 := Tryd.isAgg3
      have z3 := Tryd.sizeOf3
      have t4 := Tryd.underlying4
      have u4 := Tryd.runUnderlying4
      have g4 := Tryd.isAgg4
      have z4 := Tryd.sizeOf4
      have t9 := Tryd.underlying9
      have u9 := Tryd.runUnderlying9
      have g9 := Tryd.isAgg9
      have z9 := Tryd.sizeOf9
      have t24 := Tryd.underlying24
      have u24 := Tryd.runUnderlying24
      have g24 := Tryd.isAgg24
      have z24 := Tryd.sizeOf24
      have t62 := Tryd.underlying62
      have u62 := Tryd.runUnderlying62
      have g62 := Tryd.isAgg62
      have z62 := Tryd.sizeOf62
      have c11 := Tryd.call11
      have mixed : Tryd.prog.follows .mixedOrders = true := by kernel_rfl
      obtain ⟨k24, hk24⟩ : ∃ k, k = 17 := ⟨_, rfl⟩
      rw [← hk24] at z24
      have nk24 : ¬ k24 = 0 := by omega
      have HK24 := Lib.hid hk24
      obtain ⟨k62, hk62⟩ : ∃ k, k = 19 := ⟨_, rfl⟩
      rw [← hk62] at z62
      have nk62 : ¬ k62 = 0 := by omega
      have HK62 := Lib.hid hk62
      have hP : Tryd.prog = PD := rfl
      rw [hP] at t3 u3 g3 z3 t4 u4 g4 z4 t9 u9 g9 z9 t24 u24 g24 z24 t62 u62 g62 z62 c11 mixed ⊢
      have HP := Lib.hid hP.symm
      clear hP hk24 hk62
      have hTk : T.size = k62 := by rw [HK62.out]; exact hs19
      have hAk : A.size = k24 := by rw [HK24.out]; exact hA17
      have hld : Sem.run PD (loadCellsFrom ⟨w.heap.size, 1, none⟩ 0 k24 #[]) (w.alloc (.cells T 62)) = .ok A (w.alloc (.cells T 62)) := by rw [HK24.out]; exact hAl
      go_wp2_with (first | (go_at_call 11; refine (at_prog HP.out (HFM.out _ hG1.out)).mono ?_; rintro e w3 ⟨rfl, hf3⟩) | fail)
      go_ret
      exact ⟨by rw [HV.out]; rfl, hF.trans hf3⟩
    · have HV : Hid (bs (fhV nl true xs) = bs (91 :: (oct8 (fmtA true xs) ++ [93]))) := by show _ = _; unfold fhV; rw [if_pos hn]; rfl
      generalize bs (oct8 (fmtA true xs)) = f at HFM hsz hap1
      generalize bs (91 :: oct8 (fmtA true xs)) = f1 at hap1 hap2 hsz2
      generalize bs (91 :: (oct8 (fmtA true xs) ++ [93])) = f2 at hap2 HV
      obtain ⟨z1, hz1⟩ : ∃ z1, f.size = z1 := ⟨_, rfl⟩
      obtain ⟨z2, hz2⟩ : ∃ z2, f1.size = z2 := ⟨_, rfl⟩
      rw [hz1] at hsz
      rw [hz2] at hsz2
      clear hn
      go_enter Tryd.func79, Tryd.ntmps79
      have t3 := Tryd.underlying3
      have u3 := Tryd.runUnderlying3
      have g3 := Tryd.isAgg3
      have z3 := Tryd.sizeOf3
      have t4 := Tryd.underlying4
      have u4 := Tryd.runUnderlying4
      have g4 := Tryd.isAgg4
      have z4 := Tryd.sizeOf4
      have t9 := Tryd.underlying9
      have u9 := Tryd.runUnderlying9
      have g9 := Tryd.isAgg9
      have z9 := Tryd.sizeOf9
      have t24 := Tryd.underlying24
      have u24 := Tryd.runUnderlying24
      have g24 := Tryd.isAgg24
      have z24 := Tryd.sizeOf24
      have t62 := Tryd.underlying62
      have u62 := Tryd.runUnderlying62
      have g62 := Tryd.isAgg62
      have z62 := Tryd.sizeOf62
      have c11 := Tryd.call11
      have mixed : Tryd.prog.follows .mixedOrders = true := by kernel_rfl
      obtain ⟨k24, hk24⟩ : ∃ k, k = 17 := ⟨_, rfl⟩
      rw [← hk24] at z24
      have nk24 : ¬ k24 = 0 := by omega
      have HK24 := Lib.hid hk24
      obtain ⟨k62, hk62⟩ : ∃ k, k = 19 := ⟨_, rfl⟩
      rw [← hk62] at z62
      have nk62 : ¬ k62 = 0 := by omega
      have HK62 := Lib.hid hk62
      have hP : Tryd.prog = PD := rfl
      rw [hP] at t3 u3 g3 z3 t4 u4 g4 z4 t9 u9 g9 z9 t24 u24 g24 z24 t62 u62 g62 z62 c11 mixed ⊢
      have HP := Lib.hid hP.symm
      clear hP hk24 hk62
      have hTk : T.size = k62 := by rw [HK62.out]; exact hs19
      have hAk : A.size = k24 := by rw [HK24.out]; exact hA17
      have hld : Sem.run PD (loadCellsFrom ⟨w.heap.size, 1, none⟩ 0 k24 #[]) (w.alloc (.cells T 62)) = .ok A (w.alloc (.cells T 62)) := by rw [HK24.out]; exact hAl
      go_wp2_with (first | (go_at_call 11; refine (at_prog HP.out (HFM.out _ hG1.out)).mono ?_; rintro e w3 ⟨rfl, hf3⟩) | fail)
      go_ret
      exact ⟨by rw [HV.out]; rfl, hF.trans hf3⟩
  · have HV : Hid (fhV nl b xs = nl) := by show _ = _; unfold fhV; rw [if_neg hn]
    rw [decide_eq_false hn] at hemp
    rw [HV.out]
    generalize bs nl = s at c0 hemp ⊢
    clear hn hap1 hap2 hsz2 hsz
    go_enter Tryd.func79, Tryd.ntmps79
    have t3 := Tryd.underlying3
    have u3 := Tryd.runUnderlying3
    have g3 := Tryd.isAgg3
    have z3 := Tryd.sizeOf3
    have t4 := Tryd.underlying4
    have u4 := Tryd.runUnderlying4
    have g4 := Tryd.isAgg4
    have z4 := Tryd.sizeOf4
    have t9 := Tryd.underlying9
    have u9 := Tryd.runUnderlying9
    have g9 := Tryd.isAgg9
    have z9 := Tryd.sizeOf9
    have t24 := Tryd.underlying24
    have u24 := Tryd.runUnderlying24
    have g24 := Tryd.isAgg24
    have z24 := Tryd.sizeOf24
    have t62 := Tryd.underlying62
    have u62 := Tryd.runUnderlying62
    have g62 := Tryd.isAgg62
    have z62 := Tryd.sizeOf62
    have c11 := Tryd.call11
    have mixed : Tryd.prog.follows .mixedOrders = true := by kernel_rfl
    obtain ⟨k24, hk24⟩ : ∃ k, k = 17 := ⟨_, rfl⟩
    rw [← hk24] at z24
    have nk24 : ¬ k24 = 0 := by omega
    have HK24 := Lib.hid hk24
    obtain ⟨k62, hk62⟩ : ∃ k, k = 19 := ⟨_, rfl⟩
    rw [← hk62] at z62
    have nk62 : ¬ k62 = 0 := by omega
    have HK62 := Lib.hid hk62
    have hP : Tryd.prog = PD := rfl
    rw [hP] at t3 u3 g3 z3 t4 u4 g4 z4 t9 u9 g9 z9 t24 u24 g24 z24 t62 u62 g62 z62 c11 mixed ⊢
    have HP := Lib.hid hP.symm
    clear hP hk24 hk62
    have hTk : T.size = k62 := by rw [HK62.out]; exact hs19
    go_wp2_with fail
    go_ret
    exact ⟨rfl, hF⟩
end Go.Proofs.YtdnfmilihfkhmaaDoor
