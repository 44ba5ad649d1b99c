/-
  THE WALK of the law IpRoundTrip: it gives true.
  Conditions: the argument is an address; the package variables are as Gl says.
-/
import Derived.Test.YtdnfmilihfkhmaaDoorX3
import Derived.Test.YtdnfmilihfkhmaaDoorPg
namespace Go.Proofs.YtdnfmilihfkhmaaDoor
open Go.ChangeShapes Go.WideShapes Go.ChangeAt Go.RowKit
set_option linter.unusedVariables false

/-- A new variable that holds an address. -/
theorem put_new (P : Program) (w : World) {Z A : Array Value} (hZ : Z.size = 17) (hA : A.size = 17) (h1 : ∀ u ∈ A.toList, u.oneCell' = true) :
    ∃ y, Sem.run P (storeCells ⟨w.heap.size, 0, none⟩ A.toList 0) (w.alloc (.cells Z 24)) = .ok () y ∧ y.heap[w.heap.size]? = some (.cells A 24 (0, 0)) ∧ Fr No w y := by
  obtain ⟨y, h2, h3, h4⟩ := store_all (P := P) A.toList (heap_alloc_new w (.cells Z 24)) (by rw [Array.length_toList, hA, hZ]) h1
  exact ⟨y, h2, by simpa using h3, (Fr.alloc No w (.cells Z 24)).ofNew h4 fun k hk => .inr (by rw [hk]; exact Nat.le_refl _)⟩
theorem set_bytes {xs : List Nat} (hx : Bytes xs) (i : Nat) : Bytes (xs.set i 0) := by
  refine ⟨by rw [List.length_set]; exact hx.1, fun x h => ?_⟩
  rcases List.mem_or_eq_of_mem_set h with h | h
  · exact hx.2 x h
  · omega

set_option maxHeartbeats 8000000 in
set_option maxRecDepth 100000 in
theorem round_walk (b : Bool) (xs : List Nat) (z : Nat) (hx : Bytes xs) (hz : z < 256) (w : World) (hG : Gl w) :
    Calls Tryd.prog 4 #[.agg (adr b xs).toArray, .int .u8 z] w fun e w' => e = .returned (.bool true) ∧ Fr No w w' := by
  have v24 := zero24
  obtain ⟨Z, hZ⟩ : ∃ Z : Array Value, (adr false zeros).toArray = Z := ⟨_, rfl⟩
  rw [hZ] at v24
  have HZ : Hid (Z.size = 17) := by show _ = _; rw [← hZ]; rfl
  clear hZ
  have hbk : (w.alloc (.cells (adr b xs).toArray 24)).heap[w.heap.size]? = some (.cells (adr b xs).toArray 24 (0, 0)) := heap_alloc_new w _
  have HF : Hid (Fr No w (w.alloc (.cells (adr b xs).toArray 24)) ∧ (w.alloc (.cells (adr b xs).toArray 24)).heap[w.heap.size]? = some (.cells (adr b xs).toArray 24 (0, 0)) ∧ Bytes xs) := ⟨Fr.alloc No _ _, hbk, hx⟩
  have HG := Lib.hid hG
  have HE : Hid (∀ (ys : List Nat) (w : World), Bytes ys → Sem.run PD (Op.equalIn 10000 24 (.agg (adr b ys).toArray) (.agg (adr b ys).toArray)) w = .ok true w) := fun ys w hy => by
    have := adr_eq (b := b) (c := b) hy hy w
    rw [show Sem.run PD _ w = Sem.run Tryd.prog _ w from rfl, this]; simp
  obtain ⟨A, hA⟩ : ∃ A : Array Value, (adr b xs).toArray = A := ⟨_, rfl⟩
  have HA := Lib.hid hA
  rw [hA]
  have z0 : (0 : Int) ≤ (z : Int) := by omega
  have z1 : (z : Int) ≤ 255 := by omega
  clear hbk hx hG hz hA
  go_enter Tryd.func4, Tryd.ntmps4
  have q24 := Tryd.eqGuardType24
  have t3 := Tryd.underlying3
  have u3 := Tryd.runUnderlying3
  have g3 := Tryd.isAgg3
  have z3 := Tryd.sizeOf3
  have t4 := Tryd.underlying4
  have u4 := Tryd.runUnderlying4
  have g4 := Tryd.isAgg4
  have z4 := Tryd.sizeOf4
  have t5 := Tryd.underlying5
  have u5 := Tryd.runUnderlying5
  have g5 := Tryd.isAgg5
  have z5 := Tryd.sizeOf5
  have t9 := Tryd.underlying9
  have u9 := Tryd.runUnderlying9
  have g9 := Tryd.isAgg9
  have z9 := Tryd.sizeOf9
  have t22 := Tryd.underlying22
  have u22 := Tryd.runUnderlying22
  have g22 := Tryd.isAgg22
  have z22 := Tryd.sizeOf22
  have t24 := Tryd.underlying24
  have u24 := Tryd.runUnderlying24
  have g24 := Tryd.isAgg24
  have z24 := Tryd.sizeOf24
  have t30 := Tryd.underlying30
  have u30 := Tryd.runUnderlying30
  have g30 := Tryd.isAgg30
  have z30 := Tryd.sizeOf30
  have c10 := Tryd.call10
  have c11 := Tryd.call11
  have c12 := Tryd.call12
  have c19 := Tryd.call19
  have c20 := Tryd.call20
  have mixed : Tryd.prog.follows .mixedOrders = true := by kernel_rfl
  obtain ⟨k24, hk24⟩ : ∃ k, k = 17 := ⟨_, rfl⟩
  rw [← hk24] at z24
  have nk24 : ¬ k24 = 0 := by omega
  have HK24 := Lib.hid hk24
  have hP : Tryd.prog = PD := rfl
  rw [hP] at t3 u3 g3 z3 t4 u4 g4 z4 t5 u5 g5 z5 t9 u9 g9 z9 t22 u22 g22 z22 t24 u24 g24 z24 t30 u30 g30 z30 c10 c11 c12 c19 c20 mixed v24 q24 ⊢
  have HP := Lib.hid hP.symm
  clear hP hk24
  go_wp2_with fail
  rw [HA.out] at HF
  generalize hw1 : w.alloc (.cells A 24) = w1 at HF ⊢
  generalize hn : w.heap.size = n at HF ⊢
  have HN := Lib.hid hn
  clear hw1 hn
  rw [← HA.out] at HF
  have FIN : Hid (∀ w', Fr (fun k => k = n) w1 w' → Fr No w w') := fun w' hf => HF.out.1.ofNew hf fun k hk => .inr (by rw [hk, HN.out]; exact Nat.le_refl _)
  go_loopg [5] 9 (fun g s wr => ∃ i : Nat, s = .int .i64 i ∧ i ≤ 8 ∧ 8 - i < g ∧ Hid (∃ ys, Bytes ys ∧ wr.heap[n]? = some (.cells (adr b ys).toArray 24 (0, 0)) ∧ Fr (fun k => k = n) w1 wr))
  case atStart => exact ⟨0, by go_num, by omega, by omega, xs, HF.out.2.2, HF.out.2.1, Fr.refl _ _⟩
  case round =>
    obtain ⟨i, rfl, hi8, hig, HR⟩ := hrel
    obtain ⟨ys, hy, hb, hf⟩ := HR.out
    by_cases hi : i = 8
    · subst hi
      have HY := Lib.hid (And.intro hy (And.intro hb hf))
      have hyl : (adr b ys).toArray.size = 17 := by rw [List.size_toArray, adr_length, hy.1]
      have hl1 : Sem.run PD (loadCellsFrom ⟨n, 0, none⟩ 0 k24 #[]) wr = .ok (adr b ys).toArray wr := by rw [HK24.out]; exact load_block hb hyl (fun j v hv => by simpa using hv)
      have HVA := Lib.hid (validAddr_gen b ys hy wr)
      have hgb := gen_bytes (b := b) hy
      have hgv := gen_valid b ys
      clear hy hb hf HR hyl
      generalize (adr b ys).toArray = Y at hl1 HVA
      go_wp2_with fail
      refine (at_prog HP.out HVA.out).mono ?_
      rintro e w2 ⟨rfl, hf2⟩
      generalize genX b ys = us at hgb hgv ⊢
      have hA17 : (adr b us).length = 17 := by rw [adr_length, hgb.1]
      obtain ⟨w3, hs3, hb3, hf3⟩ := store_all (P := PD) (adr b us) (hf2.keep HY.out.2.1) (by rw [List.size_toArray, adr_length, adr_length, hgb.1, HY.out.1.1]) (adr_one _ _)
      have HF3 : Hid (Fr No w w3) := FIN.out _ (HY.out.2.2.trans (hf2.no.trans hf3))
      have HC : Hid (∀ w', Fr No w w' → Calls Tryd.prog 11 #[.agg (adr b us).toArray] w' fun e w'' => e = .returned (.string (str (fmtA b us))) ∧ Fr No w' w'') := fun w' hf => format_any b us hgb w' (HG.out.fr hf)
      have HC2 : Hid (∀ w', Calls Tryd.prog 12 #[.agg (adr b us).toArray] w' fun e w'' => e = .returned (.string (str (fmtA b us))) ∧ Fr No w' w'') := fun w' => format_ref b us hgb w'
      have HPA : Hid (∀ w', Fr No w w' → Calls Tryd.prog 20 #[.string (str (fmtA b us))] w' fun e w'' => e = .returned (.tuple #[.agg (adr b us).toArray, .bool true]) ∧ Fr No w' w'') := fun w' hf => by
        have h1 := parse_any (oct8 (fmtA b us)) w' (HG.out.fr hf).g (by rw [oct8_length]; have := fmtA_length (b := b) hgb; omega)
        rw [parse_fmt hgb hgv] at h1
        exact h1
      have HAW : Hid (∀ w', Fr No w w' → Calls Tryd.prog 10 #[] w' fun e w'' => e = .returned (.bool true) ∧ Fr No w' w'') := fun w' hf => awake_any w' (HG.out.fr hf)
      have hE := fun w => HE.out us w hgb
      have hone := adr_one b us
      have hl3 : Sem.run PD (loadCellsFrom ⟨n, 0, none⟩ 0 k24 #[]) w3 = .ok (adr b us).toArray w3 := by rw [HK24.out]; exact load_all hb3 hA17
      clear hf2 hf3 hgb hgv
      generalize hVV : adr b us = V at hA17 hs3 hb3 HC HC2 HPA hE hone hl3 ⊢
      have hVk : V.length = k24 := by rw [HK24.out]; exact hA17
      have hVk2 : V.toArray.size = k24 := by rw [List.size_toArray]; exact hVk
      have hs3' : Sem.run PD (storeCells ⟨n, 0, none⟩ V.toArray.toList 0) w2 = .ok () w3 := hs3
      have HB3 := Lib.hid (And.intro hb3 (And.intro hA17 hone))
      clear hb3 hA17 hone hVV
      generalize str (fmtA b us) = st at HC HC2 HPA
      go_wp2_with fail
      refine (at_prog HP.out (HC.out w3 HF3.out)).mono ?_
      rintro e w4 ⟨rfl, hf4⟩
      have HF4 := Lib.hid (HF3.out.trans hf4)
      have H34 := Lib.hid hf4
      clear hf4
      go_wp2_with fail
      refine (at_prog HP.out (HPA.out w4 HF4.out)).mono ?_
      rintro e w5 ⟨rfl, hf5⟩
      obtain ⟨w6, hs6, hb6, hf6⟩ := put_new PD w5 (A := V.toArray) HZ.out (by rw [List.size_toArray]; exact HB3.out.2.1) HB3.out.2.2
      have H6 : Hid (Fr No w w6 ∧ w6.heap[w5.heap.size]? = some (.cells V.toArray 24 (0, 0)) ∧ w6.heap[n]? = some (.cells V.toArray 24 (0, 0))) := ⟨(HF4.out.trans hf5).trans hf6, hb6, hf6.keep (hf5.keep (H34.out.keep HB3.out.1))⟩
      clear hf5 hb6 hf6
      go_wp2_with fail
      clear hs6
      generalize w5.heap.size = n5 at H6 ⊢
      have HLD : Hid (∀ w', Fr No w6 w' → Sem.run PD (loadCellsFrom ⟨n, 0, none⟩ 0 k24 #[]) w' = .ok V.toArray w' ∧ Sem.run PD (loadCellsFrom ⟨n5, 0, none⟩ 0 k24 #[]) w' = .ok V.toArray w') := fun w' hf => by
        rw [HK24.out]
        exact ⟨load_all (hf.keep H6.out.2.2) HB3.out.2.1, load_all (hf.keep H6.out.2.1) HB3.out.2.1⟩
      have f0 : Fr No w6 w6.drew := Fr.drew No _
      have m := HLD.out _ f0
      go_region_held3 (fun w' => Sem.run PD (loadCellsFrom ⟨n, 0, none⟩ 0 k24 #[]) w' = .ok V.toArray w' ∧ Sem.run PD (loadCellsFrom ⟨n5, 0, none⟩ 0 k24 #[]) w' = .ok V.toArray w') (assumption) (first
        | (go_at_call 10; with_reducible refine (at_prog HP.out (HAW.out w6.drew (H6.out.1.trans f0))).mono ?_; rintro e y0 ⟨rfl, h0⟩; have f1 := f0.trans h0; have m1 := HLD.out _ f1; clear h0)
        | (go_at_call 11; with_reducible refine (at_prog HP.out (HC.out y0 (H6.out.1.trans f1))).mono ?_; rintro e y1 ⟨rfl, h0⟩; have f2 := f1.trans h0; have m2 := HLD.out _ f2; clear h0)
        | (go_at_call 12; with_reducible refine (at_prog HP.out (HC2.out y1)).mono ?_; rintro e y2 ⟨rfl, h0⟩; have f3 := f2.trans h0; have m3 := HLD.out _ f3; clear h0))
      go_wp2_with fail
      go_ret
      exact ⟨rfl, H6.out.1.trans f3⟩
    · have q1 : (0 : Int) ≤ (i : Int) := by omega
      have q2 : (i : Int) < 8 := by omega
      have q3 : (0 : Int) ≤ 2 * (i : Int) := by omega
      have q4 : 2 * (i : Int) < 16 := by omega
      have q5 : (0 : Int) ≤ 2 * (i : Int) + 1 := by omega
      have q6 : 2 * (i : Int) + 1 < 16 := by omega
      obtain ⟨z1', hz1⟩ : ∃ z, ys[2 * i]? = some z := ⟨_, List.getElem?_eq_getElem (by rw [hy.1]; omega)⟩
      obtain ⟨z2', hz2⟩ : ∃ z, ys[2 * i + 1]? = some z := ⟨_, List.getElem?_eq_getElem (by rw [hy.1]; omega)⟩
      have d1 := adr_cell hb hz1
      have d2 := adr_cell hb hz2
      have f1 := frozen_of_row wr n (1 + 2 * i) _ _ hb
      have f2 := frozen_of_row wr n (1 + (2 * i + 1)) _ _ hb
      have HH := Lib.hid (And.intro hy (And.intro hb hf))
      clear hy hb hf HR hz1 hz2
      go_wp2_with fail
      all_goals (first
        | (go_roundg (8 - i)
           case measure => exact hig
           case rel => exact ⟨i + 1, by go_num, by omega, by omega, ys, HH.out.1, HH.out.2.1, HH.out.2.2⟩)
        | (go_roundg (8 - i)
           case measure => exact hig
           case rel =>
             have e1 := adr_set (i := 2 * i) (x := 0) HH.out.2.1
             have e2 := adr_set (i := 2 * i + 1) (x := 0) e1
             refine ⟨i + 1, by go_num, by omega, by omega, (ys.set (2 * i) 0).set (2 * i + 1) 0, set_bytes (set_bytes HH.out.1 _) _, ?_, ?_⟩
             · simpa using e2
             · exact HH.out.2.2.trans ((Fr.setCell (fun k => k = n) _ _ _ rfl).trans (Fr.setCell (fun k => k = n) _ _ _ rfl))))
/-- In the frame's order. -/
theorem round_law (b : Bool) (xs : List Nat) (z : Nat) (hx : Bytes xs) (hz : z < 256) (w : World) (hG : Gl w) :
    Calls Tryd.prog 4 #[.agg (adr b xs).toArray, .int .u8 z] w fun e w' => e = .returned (.bool true) ∧ Fr No w w' := round_walk b xs z hx hz w hG
end Go.Proofs.YtdnfmilihfkhmaaDoor
