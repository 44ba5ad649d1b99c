/-
  CONTRACTS of V4, BitLen, Bit and Valid, and of the reference's, over this seat's translation: what each call returns.
  Conditions: the argument is an address.
-/
import Derived.Test.YtdnfmilihfkhmaaDoorAd
namespace Go.Proofs.YtdnfmilihfkhmaaDoor
open Go.ChangeShapes Go.WideShapes Go.ChangeAt Go.RowKit
set_option linter.unusedVariables false

def bitsOf (b : Bool) : Int := if b then 128 else 32

theorem v4_bytes {a b c d : Nat} (ha : a < 256) (hb : b < 256) (hc : c < 256) (hd : d < 256) : Bytes [a, b, c, d, 0, 0, 0, 0, 0, 0, 0, 0, 0, 0, 0, 0] :=
  ⟨rfl, fun x hx => by simp at hx; omega⟩

/-- What V4 gives. -/
def v4Of (a b c d : Nat) : List Nat := [a, b, c, d, 0, 0, 0, 0, 0, 0, 0, 0, 0, 0, 0, 0]

set_option maxHeartbeats 1000000 in
set_option maxRecDepth 100000 in
theorem v4_any (a b c d : Nat) (w : World) :
    Calls Tryd.prog 27 #[.int .u8 a, .int .u8 b, .int .u8 c, .int .u8 d] w fun e w' => e = .returned (.agg (adr false (v4Of a b c d)).toArray) ∧ Fr No w w' := by
  go_enter Tryd.func27, Tryd.ntmps27
  go_wp2
  refine bodyPost_ret_by (results_agg rfl _ (b := w.heap.size) (k := 17) (cs := (adr false (v4Of a b c d)).toArray) (Tryd.isAgg24 _) (Tryd.sizeOf24 _) rfl (load_all (heap_alloc_new w _) rfl)) rfl ?_
  exact ⟨rfl, Fr.alloc _ _ _⟩

set_option maxHeartbeats 1000000 in
set_option maxRecDepth 100000 in
theorem v4_ref (a b c d : Nat) (w : World) :
    Calls Tryd.prog 28 #[.int .u8 a, .int .u8 b, .int .u8 c, .int .u8 d] w fun e w' => e = .returned (.agg (adr false (v4Of a b c d)).toArray) ∧ Fr No w w' := by
  go_enter Tryd.func28, Tryd.ntmps28
  go_wp2
  refine bodyPost_ret_by (results_agg rfl _ (b := w.heap.size) (k := 17) (cs := (adr false (v4Of a b c d)).toArray) (Tryd.isAgg24 _) (Tryd.sizeOf24 _) rfl (load_all (heap_alloc_new w _) rfl)) rfl ?_
  exact ⟨rfl, Fr.alloc _ _ _⟩

/-- An address as a letter. -/
theorem adr_letter (b : Bool) (xs : List Nat) (hx : Bytes xs) : ∃ A : Array Value, (adr b xs).toArray = A ∧ A[0]? = some (.bool b) ∧ A.size = 17 ∧ (∀ i x, xs[i]? = some x → A[1 + i]? = some (.int .u8 x)) :=
  ⟨_, rfl, rfl, by simp [adr_length, hx.1], fun i x h => by simpa using adr_get h⟩

set_option maxHeartbeats 1000000 in
set_option maxRecDepth 100000 in
theorem bitLen_A (b : Bool) (A : Array Value) (h0 : A[0]? = some (.bool b)) (w : World) :
    Calls Tryd.prog 17 #[.agg A] w fun e w' => e = .returned (.int .i64 (bitsOf b)) ∧ Fr No w w' := by
  cases b
  · go_enter Tryd.func17, Tryd.ntmps17
    go_wp2
    go_ret
    exact ⟨rfl, Fr.alloc _ _ _⟩
  · go_enter Tryd.func17, Tryd.ntmps17
    go_wp2
    go_ret
    exact ⟨rfl, Fr.alloc _ _ _⟩

set_option maxHeartbeats 1000000 in
set_option maxRecDepth 100000 in
theorem bitLen_R (b : Bool) (A : Array Value) (h0 : A[0]? = some (.bool b)) (w : World) :
    Calls Tryd.prog 18 #[.agg A] w fun e w' => e = .returned (.int .i64 (bitsOf b)) ∧ Fr No w w' := by
  cases b
  · go_enter Tryd.func18, Tryd.ntmps18
    go_wp2
    go_ret
    exact ⟨rfl, Fr.alloc _ _ _⟩
  · go_enter Tryd.func18, Tryd.ntmps18
    go_wp2
    go_ret
    exact ⟨rfl, Fr.alloc _ _ _⟩

/-- What Bit gives: bit i, or -1. -/
def bitA (b : Bool) (xs : List Nat) (i : Int) : Int := if i < 0 ∨ bitsOf b ≤ i then -1 else (((xs.getD (i.toNat / 8) 0) / 2 ^ (7 - i.toNat % 8)) % 2 : Nat)

set_option maxHeartbeats 1000000 in
set_option maxRecDepth 100000 in
theorem bit_any (b : Bool) (xs : List Nat) (i : Int) (hx : Bytes xs) (w : World) :
    Calls Tryd.prog 38 #[.agg (adr b xs).toArray, .int .i64 i] w fun e w' => e = .returned (.int .i64 (bitA b xs i)) ∧ Fr No w w' := by
  obtain ⟨A, hA, h0, hsz, hj⟩ := adr_letter b xs hx
  rw [hA]
  clear hA
  by_cases hi : i < 0
  · rw [show bitA b xs i = -1 by rw [bitA, if_pos (.inl hi)]]
    clear hj
    go_enter Tryd.func38, Tryd.ntmps38
    go_wp2_with fail
    go_ret
    exact ⟨rfl, Fr.alloc _ _ _⟩
  · have hl1 : Sem.run Tryd.prog (loadCellsFrom ⟨w.heap.size, 0, none⟩ 0 17 #[]) (w.alloc (.cells A 24)) = .ok A (w.alloc (.cells A 24)) := load_block (heap_alloc_new w _) hsz (fun j v hv => by simpa using hv)
    by_cases hb : bitsOf b ≤ i
    · rw [show bitA b xs i = -1 by rw [bitA, if_pos (.inr hb)]]
      clear hj
      go_enter Tryd.func38, Tryd.ntmps38
      have t3 := Tryd.underlying3
      have u3 := Tryd.runUnderlying3
      have g3 := Tryd.isAgg3
      have z3 := Tryd.sizeOf3
      have t4 := Tryd.underlying4
      have u4 := Tryd.runUnderlying4
      have g4 := Tryd.isAgg4
      have z4 := Tryd.sizeOf4
      have t5 := Tryd.underlying5
      have u5 := Tryd.runUnderlying5
      have g5 := Tryd.isAgg5
      have z5 := Tryd.sizeOf5
      have t22 := Tryd.underlying22
      have u22 := Tryd.runUnderlying22
      have g22 := Tryd.isAgg22
      have z22 := Tryd.sizeOf22
      have t24 := Tryd.underlying24
      have u24 := Tryd.runUnderlying24
      have g24 := Tryd.isAgg24
      have z24 := Tryd.sizeOf24
      have c17 := Tryd.call17
      have mixed : Tryd.prog.follows .mixedOrders = true := by kernel_rfl
      obtain ⟨k24, hk24⟩ : ∃ k, k = 17 := ⟨_, rfl⟩
      rw [← hk24] at z24
      have nk24 : ¬ k24 = 0 := by omega
      have HK24 := Lib.hid hk24
      have hP : Tryd.prog = PD := rfl
      rw [hP] at t3 u3 g3 z3 t4 u4 g4 z4 t5 u5 g5 z5 t22 u22 g22 z22 t24 u24 g24 z24 c17 mixed hl1 ⊢
      have HP := Lib.hid hP.symm
      clear hP hk24
      rw [← HK24.out] at hl1
      go_wp2_with fail
      refine (at_prog HP.out (bitLen_A b A h0 _)).mono ?_
      rintro e w1 ⟨rfl, hf⟩
      have HF := Lib.hid ((Fr.alloc No _ _).trans hf)
      clear hf
      go_wp2_with fail
      go_ret
      exact ⟨rfl, HF.out⟩
    · obtain ⟨n, rfl⟩ : ∃ n : Nat, i = n := ⟨i.toNat, by omega⟩
      have hn : n / 8 < 16 := by unfold bitsOf at hb; cases b <;> simp at hb <;> omega
      obtain ⟨x, hxn⟩ : ∃ x, xs[n / 8]? = some x := ⟨_, List.getElem?_eq_getElem (by rw [hx.1]; exact hn)⟩
      have hx255 : x < 256 := hx.2 x (List.mem_of_getElem? hxn)
      have hc := hj _ _ hxn
      rw [show bitA b xs (n : Int) = ((x / 2 ^ (7 - n % 8)) % 2 : Nat) by
        rw [bitA, if_neg (by omega)]
        simp [List.getD, hxn]]
      clear hj
      go_enter Tryd.func38, Tryd.ntmps38
      have t3 := Tryd.underlying3
      have u3 := Tryd.runUnderlying3
      have g3 := Tryd.isAgg3
      have z3 := Tryd.sizeOf3
      have t4 := Tryd.underlying4
      have u4 := Tryd.runUnderlying4
      have g4 := Tryd.isAgg4
      have z4 := Tryd.sizeOf4
      have t5 := Tryd.underlying5
      have u5 := Tryd.runUnderlying5
      have g5 := Tryd.isAgg5
      have z5 := Tryd.sizeOf5
      have t22 := Tryd.underlying22
      have u22 := Tryd.runUnderlying22
      have g22 := Tryd.isAgg22
      have z22 := Tryd.sizeOf22
      have t24 := Tryd.underlying24
      have u24 := Tryd.runUnderlying24
      have g24 := Tryd.isAgg24
      have z24 := Tryd.sizeOf24
      have c17 := Tryd.call17
      have mixed : Tryd.prog.follows .mixedOrders = true := by kernel_rfl
      obtain ⟨k24, hk24⟩ : ∃ k, k = 17 := ⟨_, rfl⟩
      rw [← hk24] at z24
      have nk24 : ¬ k24 = 0 := by omega
      have HK24 := Lib.hid hk24
      have hP : Tryd.prog = PD := rfl
      rw [hP] at t3 u3 g3 z3 t4 u4 g4 z4 t5 u5 g5 z5 t22 u22 g22 z22 t24 u24 g24 z24 c17 mixed hl1 ⊢
      have HP := Lib.hid hP.symm
      clear hP hk24
      rw [← HK24.out] at hl1
      go_wp2_with fail
      refine (at_prog HP.out (bitLen_A b A h0 _)).mono ?_
      rintro e w1 ⟨rfl, hf⟩
      have HF := Lib.hid ((Fr.alloc No _ _).trans hf)
      have hcell : w1.cell? ⟨w.heap.size, 1 + n / 8, none⟩ = some (.int .u8 x) := hf.cell (by rw [cell_of_row _ _ _ _ _ _ (heap_alloc_new w _)]; exact hc)
      clear hf
      have hy : x / 2 ^ (7 - n % 8) < 256 := Nat.lt_of_le_of_lt (Nat.div_le_self _ _) hx255
      have HB := Lib.hid (bit_one hy)
      go_wp2_with fail
      go_ret
      refine ⟨?_, HF.out⟩
      have h1 := HB.out
      rw [show ((x / 2 ^ (7 - n % 8) : Nat) : Int) = (x : Int) / 2 ^ (7 - n % 8) by simp] at h1
      rw [h1]
      exact ret_int (by unfold wrap64; omega)
end Go.Proofs.YtdnfmilihfkhmaaDoor
