/-
  CONTRACTS of the fixed example, over this seat's translation: it gives true.
  Conditions: the package variables are as Gl says.
-/
import Derived.Test.YtdnfmilihfkhmaaDoorP7
import Derived.Test.YtdnfmilihfkhmaaDoorEx
namespace Go.Proofs.YtdnfmilihfkhmaaDoor
open Go.ChangeShapes Go.WideShapes Go.ChangeAt Go.RowKit
set_option linter.unusedVariables false

set_option maxHeartbeats 8000000 in
set_option maxRecDepth 100000 in
theorem awake_any (w : World) (hG : Gl w) :
    Calls Tryd.prog 10 #[] w fun e w' => e = .returned (.bool true) ∧ Fr No w w' := by
  obtain ⟨Z, hZ⟩ : ∃ Z : Array Value, (adr false zeros).toArray = Z := ⟨_, rfl⟩
  have v24 := zero24
  rw [hZ] at v24
  have v39 : ∀ w, (zeroValue 39).run Tryd.prog w = .ok (.int .u16 0) w := fun w => by kernel_rfl
  obtain ⟨A, hA⟩ : ∃ A : Array Value, (adr true exA).toArray = A := ⟨_, rfl⟩
  obtain ⟨B, hB⟩ : ∃ B : Array Value, (adr true exB).toArray = B := ⟨_, rfl⟩
  obtain ⟨C, hC⟩ : ∃ C : Array Value, (adr false (v4Of 10 0 0 1)).toArray = C := ⟨_, rfl⟩
  obtain ⟨D, hD⟩ : ∃ D : Array Value, (adr false (v4Of 1 2 3 4)).toArray = D := ⟨_, rfl⟩
  have HZ : Hid (Z.size = 17 ∧ A.size = 17 ∧ B.size = 17 ∧ (∀ u ∈ Z.toList, u.oneCell' = true) ∧ (∀ u ∈ A.toList, u.oneCell' = true) ∧ (∀ u ∈ B.toList, u.oneCell' = true)) := ⟨by rw [← hZ]; rfl, by rw [← hA]; rfl, by rw [← hB]; rfl, by rw [← hZ]; exact adr_one _ _, by rw [← hA]; exact adr_one _ _, by rw [← hB]; exact adr_one _ _⟩
  have hE : ∀ w, Sem.run Tryd.prog (Op.equalIn 10000 24 (.agg C) (.agg C)) w = .ok true w := fun w => by
    rw [← hC]
    have := adr_eq (b := false) (c := false) (xs := v4Of 10 0 0 1) (ys := v4Of 10 0 0 1) (v4_bytes (a := 10) (b := 0) (c := 0) (d := 1) (by decide) (by decide) (by decide) (by decide)) (v4_bytes (a := 10) (b := 0) (c := 0) (d := 1) (by decide) (by decide) (by decide) (by decide)) w
    rw [this]
    simp
  have HV6 : Hid (∀ (b : Nat) (w : World), w.heap[b]? = some (.cells (nums .u16 exG).toArray 39 (0, 0)) → Calls Tryd.prog 25 #[.slice (some ⟨b, 0, none⟩) 8 8] w fun e w' => e = .returned (.tuple #[.agg A, .bool true]) ∧ Fr No w w') := fun b w h => by
    have h1 := v6_any (some ⟨b, 0, none⟩) 8 8 exG w (At.block h) rfl (by decide)
    rw [ex1] at h1
    rw [← hA]
    exact h1
  have HPB : Hid (∀ w, Glob w → Calls Tryd.prog 20 #[.string ⟨#[58, 58, 102, 102, 102, 102, 58, 49, 48, 46, 48, 46, 48, 46, 49]⟩] w fun e w' => e = .returned (.tuple #[.agg B, .bool true]) ∧ Fr No w w') := fun w hG => by
    have h1 := parse_any exT w hG (by decide)
    rw [ex4] at h1
    rw [← hB]
    exact h1
  have HPZ : Hid (∀ w, Glob w → Calls Tryd.prog 20 #[.string ⟨#[48, 49, 46, 50, 46, 51, 46, 52]⟩] w fun e w' => e = .returned (.tuple #[.agg Z, .bool false]) ∧ Fr No w w') := fun w hG => by
    have h1 := parse_any exU w hG (by decide)
    rw [ex5] at h1
    rw [← hZ]
    exact h1
  have HFA : Hid (∀ w', Fr No w w' → Calls Tryd.prog 11 #[.agg A] w' fun e w'' => e = .returned (.string ⟨#[50, 48, 48, 49, 58, 100, 98, 56, 58, 58, 49, 58, 48, 58, 48, 58, 49]⟩) ∧ Fr No w' w'') := fun w' hf => by
    have h1 := format_any true exA ex9.1 w' (hG.fr hf)
    rw [ex2, hA] at h1
    exact h1
  have HFB : Hid (∀ w', Fr No w w' → Calls Tryd.prog 11 #[.agg B] w' fun e w'' => e = .returned (.string ⟨#[58, 58, 102, 102, 102, 102, 58, 97, 48, 48, 58, 49]⟩) ∧ Fr No w' w'') := fun w' hf => by
    have h1 := format_any true exB ex9.2 w' (hG.fr hf)
    rw [ex3, hB] at h1
    exact h1
  have HUN : Hid (∀ w', Fr No w w' → Calls Tryd.prog 15 #[.agg B] w' fun e w'' => e = .returned (.agg C) ∧ Fr No w' w'') := fun w' hf => by
    have h1 := unmap_any true exB ex9.2 w'
    rw [ex6.1, ex6.2, hB, hC] at h1
    exact h1
  have HV1 : Hid (∀ w', Fr No w w' → Calls Tryd.prog 27 #[.int .u8 10, .int .u8 0, .int .u8 0, .int .u8 1] w' fun e w'' => e = .returned (.agg C) ∧ Fr No w' w'') := fun w' hf => by
    have h1 := v4_any 10 0 0 1 w'
    rw [hC] at h1
    exact h1
  have HV2 : Hid (∀ w', Fr No w w' → Calls Tryd.prog 27 #[.int .u8 1, .int .u8 2, .int .u8 3, .int .u8 4] w' fun e w'' => e = .returned (.agg D) ∧ Fr No w' w'') := fun w' hf => by
    have h1 := v4_any 1 2 3 4 w'
    rw [hD] at h1
    exact h1
  have HVA : Hid (∀ w', Fr No w w' → Calls Tryd.prog 13 #[.agg A] w' fun e w'' => e = .returned (.bool true) ∧ Fr No w' w'') := fun w' hf => by
    have h1 := valid_any true exA ex9.1 w'
    rw [hA] at h1
    exact h1
  have HCM : Hid (∀ w', Fr No w w' → Calls Tryd.prog 37 #[.agg D, .agg A] w' fun e w'' => e = .returned (.int .i64 (-1)) ∧ Fr No w' w'') := fun w' hf => by
    have h1 := compare_any false true (v4Of 1 2 3 4) exA (v4_bytes (by decide) (by decide) (by decide) (by decide)) ex9.1 w'
    rw [ex7, hA, hD] at h1
    exact h1
  have HBL : Hid (∀ w', Fr No w w' → Calls Tryd.prog 17 #[.agg A] w' fun e w'' => e = .returned (.int .i64 128) ∧ Fr No w' w'') := fun w' hf => by
    have h1 := bitLen_A true A (by rw [← hA]; rfl) w'
    exact h1
  have HBI : Hid (∀ w', Fr No w w' → Calls Tryd.prog 38 #[.agg A, .int .i64 2] w' fun e w'' => e = .returned (.int .i64 1) ∧ Fr No w' w'') := fun w' hf => by
    have h1 := bit_any true exA 2 ex9.1 w'
    rw [ex8, hA] at h1
    exact h1
  have HG := Lib.hid hG
  clear hZ hA hB hC hD hG
  go_enter Tryd.func10, Tryd.ntmps10
  have q24 := Tryd.eqGuardType24
  have t3 := Tryd.underlying3
  have u3 := Tryd.runUnderlying3
  have g3 := Tryd.isAgg3
  have z3 := Tryd.sizeOf3
  have t4 := Tryd.underlying4
  have u4 := Tryd.runUnderlying4
  have g4 := Tryd.isAgg4
  have z4 := Tryd.sizeOf4
  have t5 := Tryd.underlying5
  have u5 := Tryd.runUnderlying5
  have g5 := Tryd.isAgg5
  have z5 := Tryd.sizeOf5
  have t9 := Tryd.underlying9
  have u9 := Tryd.runUnderlying9
  have g9 := Tryd.isAgg9
  have z9 := Tryd.sizeOf9
  have t22 := Tryd.underlying22
  have u22 := Tryd.runUnderlying22
  have g22 := Tryd.isAgg22
  have z22 := Tryd.sizeOf22
  have t24 := Tryd.underlying24
  have u24 := Tryd.runUnderlying24
  have g24 := Tryd.isAgg24
  have z24 := Tryd.sizeOf24
  have t37 := Tryd.underlying37
  have u37 := Tryd.runUnderlying37
  have g37 := Tryd.isAgg37
  have z37 := Tryd.sizeOf37
  have t39 := Tryd.underlying39
  have u39 := Tryd.runUnderlying39
  have g39 := Tryd.isAgg39
  have z39 := Tryd.sizeOf39
  have c25 := Tryd.call25
  have c20 := Tryd.call20
  have c11 := Tryd.call11
  have c15 := Tryd.call15
  have c27 := Tryd.call27
  have c13 := Tryd.call13
  have c37 := Tryd.call37
  have c17 := Tryd.call17
  have c38 := Tryd.call38
  have mixed : Tryd.prog.follows .mixedOrders = true := by kernel_rfl
  obtain ⟨k24, hk24⟩ : ∃ k, k = 17 := ⟨_, rfl⟩
  rw [← hk24] at z24
  have nk24 : ¬ k24 = 0 := by omega
  have HK24 := Lib.hid hk24
  have hP : Tryd.prog = PD := rfl
  rw [hP] at t3 u3 g3 z3 t4 u4 g4 z4 t5 u5 g5 z5 t9 u9 g9 z9 t22 u22 g22 z22 t24 u24 g24 z24 t37 u37 g37 z37 t39 u39 g39 z39 c25 c20 c11 c15 c27 c13 c37 c17 c38 mixed v24 v39 hE q24 ⊢
  have HP := Lib.hid hP.symm
  clear hP hk24
  have hzk : Z.size = k24 := by rw [HK24.out]; exact HZ.out.1
  have hak : A.size = k24 := by rw [HK24.out]; exact HZ.out.2.1
  have hbk : B.size = k24 := by rw [HK24.out]; exact HZ.out.2.2.1
  go_wp2_with fail
  refine (at_prog HP.out (HV6.out _ _ (heap_alloc_new w _))).mono ?_
  rintro e w1 ⟨rfl, hf1⟩
  have f1 := (Fr.alloc No w (.cells #[.int .u16 8193, .int .u16 3512, .int .u16 0, .int .u16 0, .int .u16 1, .int .u16 0, .int .u16 0, .int .u16 1] 39)).trans hf1
  obtain ⟨y1, hs1, hb1, hg1⟩ := store_all (P := PD) A.toList (heap_alloc_new w1 (.cells Z 24)) (by rw [Array.length_toList, HZ.out.2.1, HZ.out.1]) HZ.out.2.2.2.2.1
  have F1 := Lib.hid ((f1.trans (Fr.alloc No _ _)).ofNew hg1 fun k hk => .inr (by rw [hk]; exact f1.size))
  have hb1' : y1.heap[w1.heap.size]? = some (.cells A 24 (0, 0)) := by simpa using hb1
  have B1 := Lib.hid hb1'
  clear hb1 hb1' hg1 hf1 f1
  go_wp2_with fail
  refine (at_prog HP.out (HPB.out _ (HG.out.fr F1.out).g)).mono ?_
  rintro e w2 ⟨rfl, hf2⟩
  obtain ⟨y2, hs2, hb2, hg2⟩ := store_all (P := PD) B.toList (heap_alloc_new w2 (.cells Z 24)) (by rw [Array.length_toList, HZ.out.2.2.1, HZ.out.1]) HZ.out.2.2.2.2.2
  have F2 := Lib.hid (((F1.out.trans hf2).trans (Fr.alloc No _ _)).ofNew hg2 fun k hk => .inr (by rw [hk]; exact (F1.out.trans hf2).size))
  have B2 : Hid (y2.heap[w2.heap.size]? = some (.cells B 24 (0, 0)) ∧ y2.heap[w1.heap.size]? = some (.cells A 24 (0, 0)) ∧ w1.heap.size < w2.heap.size) := by
    have hlt := (Array.getElem?_eq_some_iff.1 (hf2.keep B1.out)).1
    refine ⟨by simpa using hb2, ?_, hlt⟩
    have h1 := (Fr.alloc No w2 (.cells Z 24)).keep (hf2.keep B1.out)
    exact (hg2.block _ (Array.getElem?_eq_some_iff.1 h1).1 (by omega)).trans h1
  clear hb2 hg2 hf2 hs1
  go_wp2_with fail
  refine (at_prog HP.out (HPZ.out _ (HG.out.fr F2.out).g)).mono ?_
  rintro e w3 ⟨rfl, hf3⟩
  obtain ⟨y3, hs3, hb3, hg3⟩ := store_all (P := PD) Z.toList (heap_alloc_new w3 (.cells Z 24)) (by rw [Array.length_toList]) HZ.out.2.2.2.1
  have F3 := Lib.hid (((F2.out.trans hf3).trans (Fr.alloc No _ _)).ofNew hg3 fun k hk => .inr (by rw [hk]; exact (F2.out.trans hf3).size))
  have B3 : Hid (y3.heap[w2.heap.size]? = some (.cells B 24 (0, 0)) ∧ y3.heap[w1.heap.size]? = some (.cells A 24 (0, 0))) := by
    have k1 := hf3.keep B2.out.1
    have k2 := hf3.keep B2.out.2.1
    have l1 := (Array.getElem?_eq_some_iff.1 k1).1
    have l2 := (Array.getElem?_eq_some_iff.1 k2).1
    have h1 := (Fr.alloc No w3 (.cells Z 24)).keep k1
    have h2 := (Fr.alloc No w3 (.cells Z 24)).keep k2
    exact ⟨(hg3.block _ (Array.getElem?_eq_some_iff.1 h1).1 (by omega)).trans h1, (hg3.block _ (Array.getElem?_eq_some_iff.1 h2).1 (by omega)).trans h2⟩
  clear hb3 hg3 hf3 hs2
  go_wp2_with fail
  clear hs3
  have HB3 := B3
  generalize w1.heap.size = b1 at B3 ⊢
  generalize w2.heap.size = b2 at B3 ⊢
  generalize w3.heap.size = b3
  generalize y3 = w5 at B3 F3 ⊢
  have HLD : Hid (∀ w', Fr No w5 w' → Sem.run PD (loadCellsFrom ⟨b1, 0, none⟩ 0 k24 #[]) w' = .ok A w' ∧ Sem.run PD (loadCellsFrom ⟨b2, 0, none⟩ 0 k24 #[]) w' = .ok B w') := fun w' hf => by
    rw [HK24.out]
    exact ⟨load_block (hf.keep B3.out.2) HZ.out.2.1 (fun j v hv => by simpa using hv), load_block (hf.keep B3.out.1) HZ.out.2.2.1 (fun j v hv => by simpa using hv)⟩
  have f5 : Fr No w5 w5.drew := Fr.drew No _
  have m := (HLD.out _ f5).1
  have mm := (HLD.out _ f5).2
  go_region_held3 (fun w' => Sem.run PD (loadCellsFrom ⟨b1, 0, none⟩ 0 k24 #[]) w' = .ok A w' ∧ Sem.run PD (loadCellsFrom ⟨b2, 0, none⟩ 0 k24 #[]) w' = .ok B w') (constructor <;> assumption) (first | (go_at_call 11; with_reducible refine (at_prog HP.out (HFA.out w5.drew (F3.out.trans f5))).mono ?_; rintro e x0 ⟨rfl, h0⟩; have g0 := f5.trans h0; have m0 := (HLD.out _ g0).1; have n0 := (HLD.out _ g0).2; clear h0) | (go_at_call 11; with_reducible refine (at_prog HP.out (HFB.out x0 (F3.out.trans g0))).mono ?_; rintro e x1 ⟨rfl, h1⟩; have g1 := g0.trans h1; have m1 := (HLD.out _ g1).1; have n1 := (HLD.out _ g1).2; clear h1) | (go_at_call 15; with_reducible refine (at_prog HP.out (HUN.out x1 (F3.out.trans g1))).mono ?_; rintro e x2 ⟨rfl, h2⟩; have g2 := g1.trans h2; have m2 := (HLD.out _ g2).1; have n2 := (HLD.out _ g2).2; clear h2) | (go_at_call 27; with_reducible refine (at_prog HP.out (HV1.out x2 (F3.out.trans g2))).mono ?_; rintro e x3 ⟨rfl, h3⟩; have g3 := g2.trans h3; have m3 := (HLD.out _ g3).1; have n3 := (HLD.out _ g3).2; clear h3) | (go_at_call 13; with_reducible refine (at_prog HP.out (HVA.out x3 (F3.out.trans g3))).mono ?_; rintro e x4 ⟨rfl, h4⟩; have g4 := g3.trans h4; have m4 := (HLD.out _ g4).1; have n4 := (HLD.out _ g4).2; clear h4) | (go_at_call 27; with_reducible refine (at_prog HP.out (HV2.out x4 (F3.out.trans g4))).mono ?_; rintro e x5 ⟨rfl, h5⟩; have g5 := g4.trans h5; have m5 := (HLD.out _ g5).1; have n5 := (HLD.out _ g5).2; clear h5) | (go_at_call 37; with_reducible refine (at_prog HP.out (HCM.out x5 (F3.out.trans g5))).mono ?_; rintro e x6 ⟨rfl, h6⟩; have g6 := g5.trans h6; have m6 := (HLD.out _ g6).1; have n6 := (HLD.out _ g6).2; clear h6) | (go_at_call 17; with_reducible refine (at_prog HP.out (HBL.out x6 (F3.out.trans g6))).mono ?_; rintro e x7 ⟨rfl, h7⟩; have g7 := g6.trans h7; have m7 := (HLD.out _ g7).1; have n7 := (HLD.out _ g7).2; clear h7) | (go_at_call 38; with_reducible refine (at_prog HP.out (HBI.out x7 (F3.out.trans g7))).mono ?_; rintro e x8 ⟨rfl, h8⟩; have g8 := g7.trans h8; have m8 := (HLD.out _ g8).1; have n8 := (HLD.out _ g8).2; clear h8))
  go_wp2_with fail
  go_ret
  exact ⟨rfl, F3.out.trans g8⟩
end Go.Proofs.YtdnfmilihfkhmaaDoor
