/-
  CONTRACTS of package cidr's first and of the reference's Bit, over this seat's translation: what each call returns.
  Conditions: the argument is an address.
-/
import Derived.Test.YtmhnailcmlomiaaGreatDoorCa
import Derived.Test.YtmhnailcmlomiaaGreatDoorW
namespace Go.Proofs.YtmhnailcmlomiaaGreatDoor
open Go.ChangeShapes Go.WideShapes Go.ChangeAt Go.RowKit
set_option linter.unusedVariables false

set_option maxHeartbeats 2000000 in
set_option maxRecDepth 100000 in
theorem bit_ref (b : Bool) (xs : List Nat) (n : Nat) (hx : Bytes xs) (hn : (n : Int) < bitsOf b) (w : World) :
    Calls Tryz.prog 58 #[.agg (adr b xs).toArray, .int .i64 n] w fun e w' => e = .returned (.int .i64 (bitX xs n : Nat)) ∧ Fr No w w' := by
  obtain ⟨A, hA, h0, hsz, hj⟩ := adr_letter b xs hx
  rw [hA]
  clear hA
  have hl1 : Sem.run Tryz.prog (loadCellsFrom ⟨w.heap.size, 0, none⟩ 0 17 #[]) (w.alloc (.cells A 30)) = .ok A (w.alloc (.cells A 30)) := load_block (heap_alloc_new w _) hsz (fun j v hv => by simpa using hv)
  have hn16 : n / 8 < 16 := by have := bitsOf_le b; omega
  obtain ⟨x, hxn⟩ : ∃ x, xs[n / 8]? = some x := ⟨_, List.getElem?_eq_getElem (by rw [hx.1]; exact hn16)⟩
  have hx255 : x < 256 := hx.2 x (List.mem_of_getElem? hxn)
  have hc := hj _ _ hxn
  rw [show bitX xs n = x / 2 ^ (7 - n % 8) % 2 by rw [bitX, List.getD_eq_getElem?_getD, hxn]; rfl]
  have hb : ¬ bitsOf b ≤ (n : Int) := by omega
  have hn128 : n < 128 := by have := bitsOf_le b; omega
  clear hj hn
  go_enter Tryz.func58, Tryz.ntmps58
  have t3 := Tryz.underlying3
  have u3 := Tryz.runUnderlying3
  have g3 := Tryz.isAgg3
  have z3 := Tryz.sizeOf3
  have t4 := Tryz.underlying4
  have u4 := Tryz.runUnderlying4
  have g4 := Tryz.isAgg4
  have z4 := Tryz.sizeOf4
  have t5 := Tryz.underlying5
  have u5 := Tryz.runUnderlying5
  have g5 := Tryz.isAgg5
  have z5 := Tryz.sizeOf5
  have t28 := Tryz.underlying28
  have u28 := Tryz.runUnderlying28
  have g28 := Tryz.isAgg28
  have z28 := Tryz.sizeOf28
  have t30 := Tryz.underlying30
  have u30 := Tryz.runUnderlying30
  have g30 := Tryz.isAgg30
  have z30 := Tryz.sizeOf30
  have t69 := Tryz.underlying69
  have u69 := Tryz.runUnderlying69
  have g69 := Tryz.isAgg69
  have z69 := Tryz.sizeOf69
  have c57 := Tryz.call57
  have mixed : Tryz.prog.follows .mixedOrders = true := by kernel_rfl
  obtain ⟨k30, hk30⟩ : ∃ k, k = 17 := ⟨_, rfl⟩
  rw [← hk30] at z30
  have nk30 : ¬ k30 = 0 := by omega
  have HK30 := Lib.hid hk30
  have hP : Tryz.prog = PD := rfl
  rw [hP] at t3 u3 g3 z3 t4 u4 g4 z4 t5 u5 g5 z5 t28 u28 g28 z28 t30 u30 g30 z30 t69 u69 g69 z69 c57 mixed hl1 ⊢
  have HP := Lib.hid hP.symm
  clear hP hk30
  rw [← HK30.out] at hl1
  go_wp2_with fail
  refine (at_prog HP.out (bitLen_R b A h0 _)).mono ?_
  rintro e w1 ⟨rfl, hf⟩
  have HF := Lib.hid ((Fr.alloc No _ _).trans hf)
  have hcell : w1.cell? ⟨w.heap.size, 1 + n / 8, none⟩ = some (.int .u8 x) := hf.cell (by rw [cell_of_row _ _ _ _ _ _ (heap_alloc_new w _)]; exact hc)
  clear hf
  have hy : x / 2 ^ (7 - n % 8) < 256 := Nat.lt_of_le_of_lt (Nat.div_le_self _ _) hx255
  have HB := Lib.hid (bit_one hy)
  go_wp2_with fail
  go_ret
  refine ⟨?_, HF.out⟩
  have h1 := HB.out
  rw [show ((x / 2 ^ (7 - n % 8) : Nat) : Int) = (x : Int) / 2 ^ (7 - n % 8) by simp] at h1
  rw [h1]
  exact ret_int (by unfold wrap64; omega)

set_option maxHeartbeats 4000000 in
set_option maxRecDepth 100000 in
theorem first_any (b : Bool) (xs : List Nat) (n : Nat) (hx : Bytes xs) (hn : (n : Int) ≤ bitsOf b) (w : World) :
    Calls Tryz.prog 85 #[.agg (adr b xs).toArray, .int .i64 n] w fun e w' => e = .returned (.agg (adr b (pofX b xs n)).toArray) ∧ Fr No w w' := by
  obtain ⟨B, hB⟩ : ∃ B : Nat, bitsOf b = B := ⟨(bitsOf b).toNat, by have := bitsOf_le b; omega⟩
  have hB128 : B ≤ 128 := by have := bitsOf_le b; omega
  have hnB : n ≤ B := by omega
  have v30 := zero30
  obtain ⟨Z, hZ⟩ : ∃ Z : Array Value, (adr false zeros).toArray = Z := ⟨_, rfl⟩
  have hZ17 : Z.size = 17 := by rw [← hZ]; rfl
  rw [hZ] at v30
  have HE : Hid (pofX b xs n = clrs xs n (B - n)) := by show _ = _; rw [pofX, hB]; congr 1; omega
  rw [HE.out]
  obtain ⟨C0, hC0⟩ : ∃ C0 : Array Value, (adr b xs).toArray = C0 := ⟨_, rfl⟩
  obtain ⟨b1, b2, hF⟩ := alloc2 w (.cells C0 30) (.cells Z 30)
  rw [hC0]
  have HS := Lib.hid (And.intro hx (And.intro hC0 (And.intro hB hnB)))
  clear hx hC0 hZ hn HE
  go_enter Tryz.func85, Tryz.ntmps85
  have t3 := Tryz.underlying3
  have u3 := Tryz.runUnderlying3
  have g3 := Tryz.isAgg3
  have z3 := Tryz.sizeOf3
  have t4 := Tryz.underlying4
  have u4 := Tryz.runUnderlying4
  have g4 := Tryz.isAgg4
  have z4 := Tryz.sizeOf4
  have t5 := Tryz.underlying5
  have u5 := Tryz.runUnderlying5
  have g5 := Tryz.isAgg5
  have z5 := Tryz.sizeOf5
  have t28 := Tryz.underlying28
  have u28 := Tryz.runUnderlying28
  have g28 := Tryz.isAgg28
  have z28 := Tryz.sizeOf28
  have t30 := Tryz.underlying30
  have u30 := Tryz.runUnderlying30
  have g30 := Tryz.isAgg30
  have z30 := Tryz.sizeOf30
  have c84 := Tryz.call84
  have mixed : Tryz.prog.follows .mixedOrders = true := by kernel_rfl
  obtain ⟨k30, hk30⟩ : ∃ k, k = 17 := ⟨_, rfl⟩
  rw [← hk30] at z30
  have nk30 : ¬ k30 = 0 := by omega
  have HK30 := Lib.hid hk30
  have hP : Tryz.prog = PD := rfl
  rw [hP] at t3 u3 g3 z3 t4 u4 g4 z4 t5 u5 g5 z5 t28 u28 g28 z28 t30 u30 g30 z30 c84 mixed v30 ⊢
  have HP := Lib.hid hP.symm
  clear hP hk30
  go_wp2_with fail
  generalize (w.alloc (.cells C0 30)).alloc (.cells Z 30) = w2 at b1 b2 hF ⊢
  obtain ⟨m, hm⟩ : ∃ m, w.heap.size = m := ⟨_, rfl⟩
  rw [hm] at b1 b2 ⊢
  have HN : Hid (w.heap.size = m ∧ Fr No w w2 ∧ w2.heap[m]? = some (.cells C0 30 (0, 0)) ∧ w2.heap[m + 1]? = some (.cells Z 30 (0, 0))) := ⟨hm, hF, b1, b2⟩
  clear hm hF b1 b2 v30
  go_loopg [5] (B - n + 1) (fun g s wr => ∃ i : Nat, s = .int .i64 i ∧ n ≤ i ∧ i ≤ B ∧ B - i < g ∧ Hid (Fr (fun k => k = m) w2 wr ∧ wr.heap[m]? = some (.cells (adr b (clrs xs n (i - n))).toArray 30 (0, 0))))
  case atStart =>
    refine ⟨n, by go_num, by omega, hnB, by omega, Fr.refl _ _, ?_⟩
    rw [Nat.sub_self, show clrs xs n 0 = xs from rfl, HS.out.2.1]
    exact HN.out.2.2.1
  case round =>
    obtain ⟨i, rfl, hni, hiB, hig, HR⟩ := hrel
    have hcb := clrs_bytes (n := n) HS.out.1 (i - n)
    obtain ⟨A, hA, h0, hsz, hj⟩ := adr_letter b (clrs xs n (i - n)) hcb
    have hb1 := HR.out.2
    rw [hA] at hb1
    have HL : Hid (∀ w', Fr No wr w' → Sem.run PD (loadCellsFrom ⟨m, 0, none⟩ 0 k30 #[]) w' = .ok A w' ∧ w'.heap[m]? = some (.cells A 30 (0, 0))) := fun w' hf => ⟨load_block (hf.keep hb1) (by rw [HK30.out]; exact hsz) (fun j v hv => by simpa using hv), hf.keep hb1⟩
    have hl1 := (HL.out wr (Fr.refl _ _)).1
    have HBL : Hid (∀ w', Calls Tryz.prog 84 #[.agg A] w' fun e w'' => e = .returned (.int .i64 B) ∧ Fr No w' w'') := fun w' => by rw [← HS.out.2.2.1]; exact bitLen_A b A h0 w'
    have hAk : A.size = k30 := by rw [HK30.out]; exact hsz
    have HSTO : Hid (∀ w', Fr No wr w' → ∃ y, Sem.run PD (storeCells ⟨m + 1, 0, none⟩ A.toList 0) w' = .ok () y ∧ y.heap[m + 1]? = some (.cells A 30 (0, 0)) ∧ Fr No w y) := fun w' hf => by
      have hbn : w'.heap[m + 1]? = some (.cells Z 30 (0, 0)) := hf.keep ((HR.out.1.block (m + 1) (Array.getElem?_eq_some_iff.1 HN.out.2.2.2).1 (by omega)).trans HN.out.2.2.2)
      obtain ⟨y, hst, hyb, hyf⟩ := store_all (P := PD) A.toList hbn (by rw [Array.length_toList, hsz, hZ17]) (by rw [← hA]; exact adr_one _ _)
      refine ⟨y, hst, by simpa using hyb, ?_⟩
      refine ((HN.out.2.1.ofNew HR.out.1 fun k hk => .inr (by rw [HN.out.1, hk]; exact Nat.le_refl _)).trans hf).ofNew hyf fun k hk => .inr (by rw [HN.out.1, hk]; omega)
    by_cases hi : i = B
    · have HA : Hid ((adr b (clrs xs n (B - n))).toArray = A) := by show _ = _; rw [← hi]; exact hA
      have hib : ¬ (i : Int) < (B : Int) := by omega
      go_wp2_with (first | (go_at_call 84; refine (at_prog HP.out (HBL.out _)).mono ?_; rintro e w3 ⟨rfl, hf3⟩; have hl3 := (HL.out w3 hf3).1; obtain ⟨y, hst, hyb, hyf⟩ := HSTO.out w3 hf3) | fail)
      refine bodyPost_ret_by (results_agg rfl _ (b := m + 1) (k := 17) (cs := A) (Tryz.isAgg30 _) (Tryz.sizeOf30 _) rfl (load_block hyb hsz (fun j v hv => by simpa using hv))) rfl ?_
      exact ⟨by rw [HA.out], hyf⟩
    · have q2 : (i : Int) < (B : Int) := by omega
      have hi16 : i / 8 < 16 := by omega
      obtain ⟨x, hxn⟩ : ∃ x, (clrs xs n (i - n))[i / 8]? = some x := ⟨_, List.getElem?_eq_getElem (by rw [hcb.1]; exact hi16)⟩
      have hx255 : x < 256 := hcb.2 x (List.mem_of_getElem? hxn)
      have HC : Hid (∀ w', Fr No wr w' → w'.cell? ⟨m, 1 + i / 8, none⟩ = some (.int .u8 x) ∧ w'.frozen? ⟨m, 1 + i / 8, none⟩ = false) := fun w' hf => by
        have hb' := (HL.out w' hf).2
        exact ⟨by rw [cell_of_row _ _ _ _ _ _ hb']; exact hj _ _ hxn, frozen_of_row _ _ _ _ _ hb'⟩
      have hbits : bits .andNot .u8 (x : Int) (128 / 2 ^ (i % 8)) = ((offB x (7 - i % 8) : Nat) : Int) := by
        rw [← bits_off hx255 (m := 7 - i % 8) (by omega), ← shr_pow (m := i % 8) (by omega)]
        simp
      have HX : Hid (x < 256 ∧ (clrs xs n (i - n)).set (i / 8) (offB x (7 - i % 8)) = clrs xs n (i + 1 - n)) := ⟨hx255, by
        rw [show i + 1 - n = i - n + 1 by omega, clrs, clr, show n + (i - n) = i by omega, List.getD_eq_getElem?_getD, hxn]; rfl⟩
      have HB0 : Hid ((adr b (clrs xs n (i - n))).toArray = A) := hA
      have HBT := Lib.hid hbits
      clear hb1 hA hj h0 hbits
      go_wp2_with (first | (go_at_call 84; refine (at_prog HP.out (HBL.out _)).mono ?_; rintro e w3 ⟨rfl, hf3⟩; have hl3 := (HL.out w3 hf3).1) | fail)
      have c1 := (HC.out w3.drew (hf3.trans (Fr.drew _ _))).1
      have c2 := (HC.out w3.drew (hf3.trans (Fr.drew _ _))).2
      have c3 := (HC.out w3 hf3).1
      have c4 := (HC.out w3 hf3).2
      go_region
      rw [HBT.out]
      have HW : Hid (Fr (fun k => k = m) w2 (w3.setCell ⟨m, 1 + i / 8, none⟩ (.int .u8 (offB x (7 - i % 8) : Nat))).drew ∧ (w3.setCell ⟨m, 1 + i / 8, none⟩ (.int .u8 (offB x (7 - i % 8) : Nat))).drew.heap[m]? = some (.cells (adr b (clrs xs n (i + 1 - n))).toArray 30 (0, 0))) := by
        have hb3 : w3.heap[m]? = some (.cells (adr b (clrs xs n (i - n))).toArray 30 (0, 0)) := by rw [HB0.out]; exact (HL.out w3 hf3).2
        refine ⟨((HR.out.1.trans hf3.no).trans (Fr.setCell (fun k => k = m) _ _ _ rfl)).trans (Fr.drew _ _), ?_⟩
        have e1 := adr_set (i := i / 8) (x := offB x (7 - i % 8)) hb3
        rw [HX.out.2] at e1
        exact e1
      generalize (w3.setCell ⟨m, 1 + i / 8, none⟩ (.int .u8 (offB x (7 - i % 8) : Nat))).drew = w4 at HW ⊢
      clear c1 c2 c3 c4 hl3 hf3
      go_wp2_with fail
      go_roundg (B - i)
      case measure => exact hig
      case rel => exact ⟨i + 1, by go_num, by omega, by omega, by omega, HW.out.1, HW.out.2⟩
end Go.Proofs.YtmhnailcmlomiaaGreatDoor
