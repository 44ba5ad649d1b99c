/-
  CONTRACT of the law IpCompareIsOrder, over this seat's translation: it gives true.
  Conditions: the arguments are addresses, the package variables are as Gl says.
-/
import Derived.Test.YtfodjcpcdnajbaaDoorCo
import Derived.Test.YtfodjcpcdnajbaaDoorAw
namespace Go.Proofs.YtfodjcpcdnajbaaDoor
open Go.ChangeShapes Go.WideShapes Go.ChangeAt Go.RowKit
set_option linter.unusedVariables false

set_option maxHeartbeats 8000000 in
set_option maxRecDepth 100000 in
theorem compareLaw_any (b c d : Bool) (xs ys zs : List Nat) (i : Int) (hx : Bytes xs) (hy : Bytes ys) (hz : Bytes zs) (w : World) (hG : Gl w) :
    Calls Tryd.prog 7 #[.agg (adr b xs).toArray, .agg (adr c ys).toArray, .agg (adr d zs).toArray, .int .i64 i] w fun e w' => e = .returned (.bool true) ∧ Fr No w w' := by
  obtain ⟨p, hp⟩ : ∃ p, cmpA b c xs ys = p := ⟨_, rfl⟩
  obtain ⟨n, hn⟩ : ∃ n, cmpA c b ys xs = n := ⟨_, rfl⟩
  obtain ⟨q, hq⟩ : ∃ q, cmpA c d ys zs = q := ⟨_, rfl⟩
  obtain ⟨r, hr⟩ : ∃ r, cmpA b d xs zs = r := ⟨_, rfl⟩
  have hpn : IntKind.i64.wrap (-p) = n := by
    have h1 := cmpA_neg b c xs ys
    have h2 := cmpA_range b c xs ys
    rw [hp, hn] at h1
    rw [hp] at h2
    rw [h1]
    have h3 : -9223372036854775808 ≤ -p ∧ -p ≤ 9223372036854775807 := by omega
    rw [IntKind.wrap_i64]; omega
  have hT : p ≤ 0 → q ≤ 0 → r ≤ 0 := fun h1 h2 => by rw [← hr]; exact cmpA_trans b c d xs ys zs (by rw [hp]; exact h1) (by rw [hq]; exact h2)
  obtain ⟨k, hk⟩ : ∃ k, modU i 130 = k := ⟨_, rfl⟩
  obtain ⟨u, hu⟩ : ∃ u, bitA b xs i = u := ⟨_, rfl⟩
  obtain ⟨v, hv⟩ : ∃ v, bitA b xs k = v := ⟨_, rfl⟩
  obtain ⟨A, hA⟩ : ∃ A : Array Value, (adr b xs).toArray = A := ⟨_, rfl⟩
  obtain ⟨B, hB⟩ : ∃ B : Array Value, (adr c ys).toArray = B := ⟨_, rfl⟩
  obtain ⟨D, hD⟩ : ∃ D : Array Value, (adr d zs).toArray = D := ⟨_, rfl⟩
  have HAB : Hid (∀ w', Calls Tryd.prog 24 #[.agg A, .agg B] w' fun e w'' => e = .returned (.int .i64 p) ∧ Fr No w' w'') := fun w' => by rw [← hA, ← hB, ← hp]; exact compare_any b c xs ys hx hy w'
  have RAB : Hid (∀ w', Calls Tryd.prog 25 #[.agg A, .agg B] w' fun e w'' => e = .returned (.int .i64 p) ∧ Fr No w' w'') := fun w' => by rw [← hA, ← hB, ← hp]; exact compare_ref b c xs ys hx hy w'
  have HBA : Hid (∀ w', Calls Tryd.prog 24 #[.agg B, .agg A] w' fun e w'' => e = .returned (.int .i64 n) ∧ Fr No w' w'') := fun w' => by rw [← hA, ← hB, ← hn]; exact compare_any c b ys xs hy hx w'
  have HAA : Hid (∀ w', Calls Tryd.prog 24 #[.agg A, .agg A] w' fun e w'' => e = .returned (.int .i64 0) ∧ Fr No w' w'') := fun w' => by rw [← hA, ← cmpA_self b xs]; exact compare_any b b xs xs hx hx w'
  have HBD : Hid (∀ w', Calls Tryd.prog 24 #[.agg B, .agg D] w' fun e w'' => e = .returned (.int .i64 q) ∧ Fr No w' w'') := fun w' => by rw [← hB, ← hD, ← hq]; exact compare_any c d ys zs hy hz w'
  have HAD : Hid (∀ w', Calls Tryd.prog 24 #[.agg A, .agg D] w' fun e w'' => e = .returned (.int .i64 r) ∧ Fr No w' w'') := fun w' => by rw [← hA, ← hD, ← hr]; exact compare_any b d xs zs hx hz w'
  have HU : Hid (∀ w', Calls Tryd.prog 26 #[.agg A, .int .i64 i] w' fun e w'' => e = .returned (.int .i64 u) ∧ Fr No w' w'') := fun w' => by rw [← hA, ← hu]; exact bit_any b xs i hx w'
  have RU : Hid (∀ w', Calls Tryd.prog 27 #[.agg A, .int .i64 i] w' fun e w'' => e = .returned (.int .i64 u) ∧ Fr No w' w'') := fun w' => by rw [← hA, ← hu]; exact bit_ref b xs i hx w'
  have HV : Hid (∀ w', Calls Tryd.prog 26 #[.agg A, .int .i64 k] w' fun e w'' => e = .returned (.int .i64 v) ∧ Fr No w' w'') := fun w' => by rw [← hA, ← hv]; exact bit_any b xs k hx w'
  have RV : Hid (∀ w', Calls Tryd.prog 27 #[.agg A, .int .i64 k] w' fun e w'' => e = .returned (.int .i64 v) ∧ Fr No w' w'') := fun w' => by rw [← hA, ← hv]; exact bit_ref b xs k hx w'
  have HM : Hid (∀ w', Calls Tryd.prog 22 #[.int .i64 i, .int .i64 130] w' fun e w'' => e = .returned (.int .i64 k) ∧ Fr No w' w'') := fun w' => by rw [← hk]; exact mod_any i w'
  have HG := Lib.hid hG
  have HZ : Hid (A.size = 17 ∧ B.size = 17 ∧ D.size = 17) := ⟨by rw [← hA]; simp [adr, nums, hx.1], by rw [← hB]; simp [adr, nums, hy.1], by rw [← hD]; simp [adr, nums, hz.1]⟩
  have HT := Lib.hid hT
  rw [hA, hB, hD]
  clear hp hn hq hr hT hk hu hv hA hB hD hG hx hy hz
  have HW : Hid (∀ w', Fr No w w' → Calls Tryd.prog 9 #[] w' fun e w'' => e = .returned (.bool true) ∧ Fr No w' w'') := fun w' hf => awake_any w' (HG.out.fr hf)
  obtain ⟨w1, hw1⟩ : ∃ w1, ((w.alloc (.cells A 24)).alloc (.cells B 24)).alloc (.cells D 24) = w1 := ⟨_, rfl⟩
  have F1 : Hid (Fr No w w1) := by rw [← hw1]; exact ((Fr.alloc No _ _).trans (Fr.alloc No _ _)).trans (Fr.alloc No _ _)
  have BL : Hid (w1.heap[w.heap.size]? = some (.cells A 24 (0, 0)) ∧ w1.heap[w.heap.size + 1]? = some (.cells B 24 (0, 0)) ∧ w1.heap[w.heap.size + 1 + 1]? = some (.cells D 24 (0, 0))) := by
    rw [← hw1]
    refine ⟨(Fr.alloc No _ _).keep ((Fr.alloc No _ _).keep (heap_alloc_new w _)), ?_, ?_⟩
    · have := heap_alloc_new (w.alloc (.cells A 24)) (.cells B 24)
      exact (Fr.alloc No _ _).keep (by simpa using this)
    · have := heap_alloc_new ((w.alloc (.cells A 24)).alloc (.cells B 24)) (.cells D 24)
      simpa using this
  go_enter Tryd.func7, Tryd.ntmps7
  have t3 := Tryd.underlying3
  have u3 := Tryd.runUnderlying3
  have g3 := Tryd.isAgg3
  have z3 := Tryd.sizeOf3
  have t4 := Tryd.underlying4
  have u4 := Tryd.runUnderlying4
  have g4 := Tryd.isAgg4
  have z4 := Tryd.sizeOf4
  have t5 := Tryd.underlying5
  have u5 := Tryd.runUnderlying5
  have g5 := Tryd.isAgg5
  have z5 := Tryd.sizeOf5
  have t22 := Tryd.underlying22
  have u22 := Tryd.runUnderlying22
  have g22 := Tryd.isAgg22
  have z22 := Tryd.sizeOf22
  have t24 := Tryd.underlying24
  have u24 := Tryd.runUnderlying24
  have g24 := Tryd.isAgg24
  have z24 := Tryd.sizeOf24
  have c24 := Tryd.call24
  have c25 := Tryd.call25
  have c22 := Tryd.call22
  have c9 := Tryd.call9
  have c26 := Tryd.call26
  have c27 := Tryd.call27
  have mixed : Tryd.prog.follows .mixedOrders = true := by kernel_rfl
  obtain ⟨k24, hk24⟩ : ∃ k, k = 17 := ⟨_, rfl⟩
  rw [← hk24] at z24
  have nk24 : ¬ k24 = 0 := by omega
  have HK24 := Lib.hid hk24
  have hP : Tryd.prog = PD := rfl
  rw [hP] at t3 u3 g3 z3 t4 u4 g4 z4 t5 u5 g5 z5 t22 u22 g22 z22 t24 u24 g24 z24 c24 c25 c22 c9 c26 c27 mixed ⊢
  have HP := Lib.hid hP.symm
  clear hP hk24
  go_wp2_with fail
  clear hw1
  generalize w.heap.size = b1 at BL ⊢
  have HLD : Hid (∀ w', Fr No w1 w' → Sem.run PD (loadCellsFrom ⟨b1, 0, none⟩ 0 k24 #[]) w' = .ok A w' ∧ Sem.run PD (loadCellsFrom ⟨b1 + 1, 0, none⟩ 0 k24 #[]) w' = .ok B w' ∧ Sem.run PD (loadCellsFrom ⟨b1 + 1 + 1, 0, none⟩ 0 k24 #[]) w' = .ok D w') := fun w' hf => by
    rw [HK24.out]
    exact ⟨load_block (hf.keep BL.out.1) HZ.out.1 (fun j v hv => by simpa using hv), load_block (hf.keep BL.out.2.1) HZ.out.2.1 (fun j v hv => by simpa using hv), load_block (hf.keep BL.out.2.2) HZ.out.2.2 (fun j v hv => by simpa using hv)⟩
  have f1 : Fr No w1 w1.drew := Fr.drew No _
  have m := HLD.out _ f1
  go_region_held3 (fun w' => Sem.run PD (loadCellsFrom ⟨b1, 0, none⟩ 0 k24 #[]) w' = .ok A w' ∧ Sem.run PD (loadCellsFrom ⟨b1 + 1, 0, none⟩ 0 k24 #[]) w' = .ok B w' ∧ Sem.run PD (loadCellsFrom ⟨b1 + 1 + 1, 0, none⟩ 0 k24 #[]) w' = .ok D w') (assumption) (first | (go_at_call 24; with_reducible refine (at_prog HP.out (HAB.out w1.drew)).mono ?_; rintro e x0 ⟨rfl, h0⟩; have g0 := f1.trans h0; have m0 := HLD.out _ g0; clear h0) | (go_at_call 25; with_reducible refine (at_prog HP.out (RAB.out x0)).mono ?_; rintro e x1 ⟨rfl, h1⟩; have g1 := g0.trans h1; have m1 := HLD.out _ g1; clear h1) | (go_at_call 24; with_reducible refine (at_prog HP.out (HBA.out x1)).mono ?_; rintro e x2 ⟨rfl, h2⟩; have g2 := g1.trans h2; have m2 := HLD.out _ g2; clear h2) | (go_at_call 25; with_reducible refine (at_prog HP.out (RAB.out x2)).mono ?_; rintro e x3 ⟨rfl, h3⟩; have g3 := g2.trans h3; have m3 := HLD.out _ g3; clear h3) | (go_at_call 24; with_reducible refine (at_prog HP.out (HAA.out x3)).mono ?_; rintro e x4 ⟨rfl, h4⟩; have g4 := g3.trans h4; have m4 := HLD.out _ g4; clear h4))
  go_wp2_with fail
  refine (at_prog HP.out (HAB.out _)).mono ?_
  rintro e y1 ⟨rfl, hf1⟩
  have G1 := g4.trans hf1
  have M1 := HLD.out _ G1
  clear hf1 m m0 m1 m2 m3 m4
  by_cases hp0 : p ≤ 0
  · go_wp2_with fail
    refine (at_prog HP.out (HBD.out _)).mono ?_
    rintro e y2 ⟨rfl, hf2⟩
    have G2 := G1.trans hf2
    have M2 := HLD.out _ G2
    clear hf2 M1
    by_cases hq0 : q ≤ 0
    · go_wp2_with fail
      refine (at_prog HP.out (HAD.out _)).mono ?_
      rintro e y3 ⟨rfl, hf3⟩
      have G3 := G2.trans hf3
      have M3 := HLD.out _ G3
      have hr0 : r ≤ 0 := HT.out hp0 hq0
      have hr1 : ¬ 0 < r := by omega
      clear hf3 M2
      go_wp2_with fail
      refine (at_prog HP.out (HM.out _)).mono ?_
      rintro e z ⟨rfl, hz⟩
      have tf : Fr No w1 z.drew := (G3.trans hz).trans (Fr.drew No _)
      have tm := HLD.out _ tf
      go_wp2_with fail
      go_region_held3 (fun w' => Sem.run PD (loadCellsFrom ⟨b1, 0, none⟩ 0 k24 #[]) w' = .ok A w' ∧ Sem.run PD (loadCellsFrom ⟨b1 + 1, 0, none⟩ 0 k24 #[]) w' = .ok B w' ∧ Sem.run PD (loadCellsFrom ⟨b1 + 1 + 1, 0, none⟩ 0 k24 #[]) w' = .ok D w') (assumption) (first | (go_at_call 9; with_reducible refine (at_prog HP.out (HW.out z.drew (F1.out.trans tf))).mono ?_; rintro e tx0 ⟨rfl, h0⟩; have tg0 := tf.trans h0; have tm0 := HLD.out _ tg0; clear h0) | (go_at_call 26; with_reducible refine (at_prog HP.out (HU.out tx0)).mono ?_; rintro e tx1 ⟨rfl, h1⟩; have tg1 := tg0.trans h1; have tm1 := HLD.out _ tg1; clear h1) | (go_at_call 27; with_reducible refine (at_prog HP.out (RU.out tx1)).mono ?_; rintro e tx2 ⟨rfl, h2⟩; have tg2 := tg1.trans h2; have tm2 := HLD.out _ tg2; clear h2) | (go_at_call 26; with_reducible refine (at_prog HP.out (HV.out tx2)).mono ?_; rintro e tx3 ⟨rfl, h3⟩; have tg3 := tg2.trans h3; have tm3 := HLD.out _ tg3; clear h3) | (go_at_call 27; with_reducible refine (at_prog HP.out (RV.out tx3)).mono ?_; rintro e tx4 ⟨rfl, h4⟩; have tg4 := tg3.trans h4; have tm4 := HLD.out _ tg4; clear h4))
      go_wp2_with fail
      go_ret
      exact ⟨rfl, F1.out.trans tg4⟩
    · have hq1 : 0 < q := by omega
      go_wp2_with fail
      refine (at_prog HP.out (HM.out _)).mono ?_
      rintro e z ⟨rfl, hz⟩
      have tf : Fr No w1 z.drew := (G2.trans hz).trans (Fr.drew No _)
      have tm := HLD.out _ tf
      go_wp2_with fail
      go_region_held3 (fun w' => Sem.run PD (loadCellsFrom ⟨b1, 0, none⟩ 0 k24 #[]) w' = .ok A w' ∧ Sem.run PD (loadCellsFrom ⟨b1 + 1, 0, none⟩ 0 k24 #[]) w' = .ok B w' ∧ Sem.run PD (loadCellsFrom ⟨b1 + 1 + 1, 0, none⟩ 0 k24 #[]) w' = .ok D w') (assumption) (first | (go_at_call 9; with_reducible refine (at_prog HP.out (HW.out z.drew (F1.out.trans tf))).mono ?_; rintro e tx0 ⟨rfl, h0⟩; have tg0 := tf.trans h0; have tm0 := HLD.out _ tg0; clear h0) | (go_at_call 26; with_reducible refine (at_prog HP.out (HU.out tx0)).mono ?_; rintro e tx1 ⟨rfl, h1⟩; have tg1 := tg0.trans h1; have tm1 := HLD.out _ tg1; clear h1) | (go_at_call 27; with_reducible refine (at_prog HP.out (RU.out tx1)).mono ?_; rintro e tx2 ⟨rfl, h2⟩; have tg2 := tg1.trans h2; have tm2 := HLD.out _ tg2; clear h2) | (go_at_call 26; with_reducible refine (at_prog HP.out (HV.out tx2)).mono ?_; rintro e tx3 ⟨rfl, h3⟩; have tg3 := tg2.trans h3; have tm3 := HLD.out _ tg3; clear h3) | (go_at_call 27; with_reducible refine (at_prog HP.out (RV.out tx3)).mono ?_; rintro e tx4 ⟨rfl, h4⟩; have tg4 := tg3.trans h4; have tm4 := HLD.out _ tg4; clear h4))
      go_wp2_with fail
      go_ret
      exact ⟨rfl, F1.out.trans tg4⟩
  · have hp1 : 0 < p := by omega
    go_wp2_with fail
    refine (at_prog HP.out (HM.out _)).mono ?_
    rintro e z ⟨rfl, hz⟩
    have tf : Fr No w1 z.drew := (G1.trans hz).trans (Fr.drew No _)
    have tm := HLD.out _ tf
    go_wp2_with fail
    go_region_held3 (fun w' => Sem.run PD (loadCellsFrom ⟨b1, 0, none⟩ 0 k24 #[]) w' = .ok A w' ∧ Sem.run PD (loadCellsFrom ⟨b1 + 1, 0, none⟩ 0 k24 #[]) w' = .ok B w' ∧ Sem.run PD (loadCellsFrom ⟨b1 + 1 + 1, 0, none⟩ 0 k24 #[]) w' = .ok D w') (assumption) (first | (go_at_call 9; with_reducible refine (at_prog HP.out (HW.out z.drew (F1.out.trans tf))).mono ?_; rintro e tx0 ⟨rfl, h0⟩; have tg0 := tf.trans h0; have tm0 := HLD.out _ tg0; clear h0) | (go_at_call 26; with_reducible refine (at_prog HP.out (HU.out tx0)).mono ?_; rintro e tx1 ⟨rfl, h1⟩; have tg1 := tg0.trans h1; have tm1 := HLD.out _ tg1; clear h1) | (go_at_call 27; with_reducible refine (at_prog HP.out (RU.out tx1)).mono ?_; rintro e tx2 ⟨rfl, h2⟩; have tg2 := tg1.trans h2; have tm2 := HLD.out _ tg2; clear h2) | (go_at_call 26; with_reducible refine (at_prog HP.out (HV.out tx2)).mono ?_; rintro e tx3 ⟨rfl, h3⟩; have tg3 := tg2.trans h3; have tm3 := HLD.out _ tg3; clear h3) | (go_at_call 27; with_reducible refine (at_prog HP.out (RV.out tx3)).mono ?_; rintro e tx4 ⟨rfl, h4⟩; have tg4 := tg3.trans h4; have tm4 := HLD.out _ tg4; clear h4))
    go_wp2_with fail
    go_ret
    exact ⟨rfl, F1.out.trans tg4⟩
end Go.Proofs.YtfodjcpcdnajbaaDoor
