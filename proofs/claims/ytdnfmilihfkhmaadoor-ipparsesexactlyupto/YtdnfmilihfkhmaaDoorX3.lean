/-
  THE WALK of the law IpFormats: it gives true.
  Conditions: the argument is an address; the package variables are as Gl says.
-/
import Derived.Test.YtdnfmilihfkhmaaDoorRF
import Derived.Test.YtdnfmilihfkhmaaDoorR10
import Derived.Test.YtdnfmilihfkhmaaDoorAw
namespace Go.Proofs.YtdnfmilihfkhmaaDoor
open Go.ChangeShapes Go.WideShapes Go.ChangeAt Go.RowKit
set_option linter.unusedVariables false

set_option maxHeartbeats 8000000 in
set_option maxRecDepth 100000 in
theorem formats_walk (b : Bool) (xs : List Nat) (hx : Bytes xs) (w : World) (hG : Gl w) :
    Calls Tryd.prog 3 #[.agg (adr b xs).toArray] w fun e w' => e = .returned (.bool true) ∧ Fr No w w' := by
  obtain ⟨A, hA, h0, hsz, hj⟩ := adr_letter b xs hx
  obtain ⟨U, hU⟩ : ∃ U : Array Value, (adr (unmapB b xs) (unmapX b xs)).toArray = U := ⟨_, rfl⟩
  have hbk := heap_alloc_new w (.cells A 24)
  have hF := Fr.alloc No w (.cells A 24)
  have HAW : Hid (∀ w', Fr No w w' → Calls Tryd.prog 10 #[] w' fun e w'' => e = .returned (.bool true) ∧ Fr No w' w'') := fun w' hf => awake_any w' (hG.fr hf)
  have HF1 : Hid (∀ w', Fr No w w' → Calls Tryd.prog 11 #[.agg A] w' fun e w'' => e = .returned (.string (str (fmtA b xs))) ∧ Fr No w' w'') := fun w' hf => by rw [← hA]; exact format_any b xs hx w' (hG.fr hf)
  have HF2 : Hid (∀ w', Calls Tryd.prog 12 #[.agg A] w' fun e w'' => e = .returned (.string (str (fmtA b xs))) ∧ Fr No w' w'') := fun w' => by rw [← hA]; exact format_ref b xs hx w'
  have HV1 : Hid (∀ w', Calls Tryd.prog 13 #[.agg A] w' fun e w'' => e = .returned (.bool (validA b xs)) ∧ Fr No w' w'') := fun w' => by rw [← hA]; exact valid_any b xs hx w'
  have HV2 : Hid (∀ w', Calls Tryd.prog 14 #[.agg A] w' fun e w'' => e = .returned (.bool (validA b xs)) ∧ Fr No w' w'') := fun w' => by rw [← hA]; exact valid_ref b xs hx w'
  have HU1 : Hid (∀ w', Calls Tryd.prog 15 #[.agg A] w' fun e w'' => e = .returned (.agg U) ∧ Fr No w' w'') := fun w' => by rw [← hA, ← hU]; exact unmap_any b xs hx w'
  have HU2 : Hid (∀ w', Calls Tryd.prog 16 #[.agg A] w' fun e w'' => e = .returned (.agg U) ∧ Fr No w' w'') := fun w' => by rw [← hA, ← hU]; exact unmap_ref b xs hx w'
  have HB1 : Hid (∀ w', Calls Tryd.prog 17 #[.agg A] w' fun e w'' => e = .returned (.int .i64 (bitsOf b)) ∧ Fr No w' w'') := fun w' => bitLen_A b A h0 w'
  have HB2 : Hid (∀ w', Calls Tryd.prog 18 #[.agg A] w' fun e w'' => e = .returned (.int .i64 (bitsOf b)) ∧ Fr No w' w'') := fun w' => bitLen_R b A h0 w'
  have hE : ∀ w, Sem.run Tryd.prog (Op.equalIn 10000 24 (.agg U) (.agg U)) w = .ok true w := fun w => by
    rw [← hU, adr_eq (unmap_bytes hx) (unmap_bytes hx)]; simp
  rw [hA]
  have HBK := Lib.hid (And.intro hbk (And.intro hF hsz))
  clear hA h0 hsz hj hU hbk hF hG
  generalize str (fmtA b xs) = st at HF1 HF2
  generalize validA b xs = vb at HV1 HV2
  generalize bitsOf b = nb at HB1 HB2
  go_enter Tryd.func3, Tryd.ntmps3
  have q24 := Tryd.eqGuardType24
  have t3 := Tryd.underlying3
  have u3 := Tryd.runUnderlying3
  have g3 := Tryd.isAgg3
  have z3 := Tryd.sizeOf3
  have t4 := Tryd.underlying4
  have u4 := Tryd.runUnderlying4
  have g4 := Tryd.isAgg4
  have z4 := Tryd.sizeOf4
  have t5 := Tryd.underlying5
  have u5 := Tryd.runUnderlying5
  have g5 := Tryd.isAgg5
  have z5 := Tryd.sizeOf5
  have t9 := Tryd.underlying9
  have u9 := Tryd.runUnderlying9
  have g9 := Tryd.isAgg9
  have z9 := Tryd.sizeOf9
  have t22 := Tryd.underlying22
  have u22 := Tryd.runUnderlying22
  have g22 := Tryd.isAgg22
  have z22 := Tryd.sizeOf22
  have t24 := Tryd.underlying24
  have u24 := Tryd.runUnderlying24
  have g24 := Tryd.isAgg24
  have z24 := Tryd.sizeOf24
  have c10 := Tryd.call10
  have c11 := Tryd.call11
  have c12 := Tryd.call12
  have c13 := Tryd.call13
  have c14 := Tryd.call14
  have c15 := Tryd.call15
  have c16 := Tryd.call16
  have c17 := Tryd.call17
  have c18 := Tryd.call18
  have mixed : Tryd.prog.follows .mixedOrders = true := by kernel_rfl
  obtain ⟨k24, hk24⟩ : ∃ k, k = 17 := ⟨_, rfl⟩
  rw [← hk24] at z24
  have nk24 : ¬ k24 = 0 := by omega
  have HK24 := Lib.hid hk24
  have hP : Tryd.prog = PD := rfl
  rw [hP] at t3 u3 g3 z3 t4 u4 g4 z4 t5 u5 g5 z5 t9 u9 g9 z9 t22 u22 g22 z22 t24 u24 g24 z24 c10 c11 c12 c13 c14 c15 c16 c17 c18 mixed hE q24 ⊢
  have HP := Lib.hid hP.symm
  clear hP hk24
  go_wp2_with fail
  generalize w.alloc (.cells A 24) = w1 at HBK ⊢
  generalize w.heap.size = n at HBK ⊢
  have HLD : Hid (∀ w', Fr No w1 w' → Sem.run PD (loadCellsFrom ⟨n, 0, none⟩ 0 k24 #[]) w' = .ok A w') := fun w' hf => by
    rw [HK24.out]; exact load_block (hf.keep HBK.out.1) HBK.out.2.2 (fun j v hv => by simpa using hv)
  have f0 : Fr No w1 w1.drew := Fr.drew No _
  have m := HLD.out _ f0
  have g0 := HBK.out.2.1.trans f0
  go_region_held3 (fun w' => Sem.run PD (loadCellsFrom ⟨n, 0, none⟩ 0 k24 #[]) w' = .ok A w') (assumption) (first
    | (go_at_call 10; with_reducible refine (at_prog HP.out (HAW.out w1.drew g0)).mono ?_; rintro e y0 ⟨rfl, h0⟩; have f1 := f0.trans h0; have m1 := HLD.out _ f1; clear h0)
    | (go_at_call 11; with_reducible refine (at_prog HP.out (HF1.out y0 (HBK.out.2.1.trans f1))).mono ?_; rintro e y1 ⟨rfl, h0⟩; have f2 := f1.trans h0; have m2 := HLD.out _ f2; clear h0)
    | (go_at_call 12; with_reducible refine (at_prog HP.out (HF2.out y1)).mono ?_; rintro e y2 ⟨rfl, h0⟩; have f3 := f2.trans h0; have m3 := HLD.out _ f3; clear h0)
    | (go_at_call 13; with_reducible refine (at_prog HP.out (HV1.out y2)).mono ?_; rintro e y3 ⟨rfl, h0⟩; have f4 := f3.trans h0; have m4 := HLD.out _ f4; clear h0)
    | (go_at_call 14; with_reducible refine (at_prog HP.out (HV2.out y3)).mono ?_; rintro e y4 ⟨rfl, h0⟩; have f5 := f4.trans h0; have m5 := HLD.out _ f5; clear h0)
    | (go_at_call 15; with_reducible refine (at_prog HP.out (HU1.out y4)).mono ?_; rintro e y5 ⟨rfl, h0⟩; have f6 := f5.trans h0; have m6 := HLD.out _ f6; clear h0)
    | (go_at_call 16; with_reducible refine (at_prog HP.out (HU2.out y5)).mono ?_; rintro e y6 ⟨rfl, h0⟩; have f7 := f6.trans h0; have m7 := HLD.out _ f7; clear h0)
    | (go_at_call 17; with_reducible refine (at_prog HP.out (HB1.out y6)).mono ?_; rintro e y7 ⟨rfl, h0⟩; have f8 := f7.trans h0; have m8 := HLD.out _ f8; clear h0)
    | (go_at_call 18; with_reducible refine (at_prog HP.out (HB2.out y7)).mono ?_; rintro e y8 ⟨rfl, h0⟩; have f9 := f8.trans h0; have m9 := HLD.out _ f9; clear h0))
  go_wp2_with fail
  go_ret
  exact ⟨rfl, HBK.out.2.1.trans f9⟩
end Go.Proofs.YtdnfmilihfkhmaaDoor
