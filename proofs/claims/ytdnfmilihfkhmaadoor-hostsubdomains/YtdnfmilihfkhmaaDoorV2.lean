/-
  CONTRACTS of the reference's Bit, of Valid and of the reference's Valid, over this seat's translation: what each call returns.
  Conditions: the argument is an address.
-/
import Derived.Test.YtdnfmilihfkhmaaDoorV
import Derived.Deep.RegionHeld3
namespace Go.Proofs.YtdnfmilihfkhmaaDoor
open Go.ChangeShapes Go.WideShapes Go.ChangeAt Go.RowKit
set_option linter.unusedVariables false

/-- Whether an address is valid. -/
def validA (b : Bool) (xs : List Nat) : Bool := b || (xs.drop 4).all (fun x => x == 0)

theorem valid_four {xs : List Nat} (hx : Bytes xs) : ∃ x0 x1 x2 x3, xs[0]? = some x0 ∧ xs[1]? = some x1 ∧ xs[2]? = some x2 ∧ xs[3]? = some x3 ∧ Bytes (v4Of x0 x1 x2 x3) ∧ decide (xs = v4Of x0 x1 x2 x3) = validA false xs := by
  obtain ⟨hl, hb⟩ := hx
  match xs, hl with
  | [x0, x1, x2, x3, x4, x5, x6, x7, x8, x9, x10, x11, x12, x13, x14, x15], _ =>
    refine ⟨x0, x1, x2, x3, rfl, rfl, rfl, rfl, ?_, ?_⟩
    · refine v4_bytes ?_ ?_ ?_ ?_ <;> apply hb <;> simp
    · rw [Bool.eq_iff_iff]
      simp [validA, v4Of]

set_option maxHeartbeats 4000000 in
set_option maxRecDepth 100000 in
theorem valid_any (b : Bool) (xs : List Nat) (hx : Bytes xs) (w : World) :
    Calls Tryd.prog 13 #[.agg (adr b xs).toArray] w fun e w' => e = .returned (.bool (validA b xs)) ∧ Fr No w w' := by
  obtain ⟨x0, x1, x2, x3, h1, h2, h3, h4, hv4, hdec⟩ := valid_four hx
  have HE : Hid (∀ w, Sem.run Tryd.prog (Op.equalIn 10000 24 (.agg (adr b xs).toArray) (.agg (adr false (v4Of x0 x1 x2 x3)).toArray)) w = .ok (decide (b = false ∧ xs = v4Of x0 x1 x2 x3)) w) := fun w => adr_eq hx hv4 w
  obtain ⟨A, hA, h0, hsz, hj⟩ := adr_letter b xs hx
  obtain ⟨B, hB⟩ : ∃ B : Array Value, (adr false (v4Of x0 x1 x2 x3)).toArray = B := ⟨_, rfl⟩
  rw [hA] at HE ⊢
  rw [hB] at HE
  have HB := Lib.hid hB
  clear hA hB
  cases b
  · have hd : validA false xs = decide (xs = v4Of x0 x1 x2 x3) := hdec.symm
    rw [hd]
    have hE := HE.out
    simp only [true_and] at hE
    have a1 := hj _ _ h1
    have a2 := hj _ _ h2
    have a3 := hj _ _ h3
    have a4 := hj _ _ h4
    have hl1 : Sem.run Tryd.prog (loadCellsFrom ⟨w.heap.size, 0, none⟩ 0 17 #[]) (w.alloc (.cells A 24)) = .ok A (w.alloc (.cells A 24)) := load_block (heap_alloc_new w _) hsz (fun j v hv => by simpa using hv)
    have hbk := heap_alloc_new w (.cells A 24)
    have k0 : (w.alloc (.cells A 24)).cell? ⟨w.heap.size, 0, none⟩ = some (.bool false) := by rw [cell_of_row _ _ _ _ _ _ hbk]; exact h0
    have k1 : (w.alloc (.cells A 24)).cell? ⟨w.heap.size, 1, none⟩ = some (.int .u8 x0) := by rw [cell_of_row _ _ _ _ _ _ hbk]; exact a1
    have k2 : (w.alloc (.cells A 24)).cell? ⟨w.heap.size, 2, none⟩ = some (.int .u8 x1) := by rw [cell_of_row _ _ _ _ _ _ hbk]; exact a2
    have k3 : (w.alloc (.cells A 24)).cell? ⟨w.heap.size, 3, none⟩ = some (.int .u8 x2) := by rw [cell_of_row _ _ _ _ _ _ hbk]; exact a3
    have k4 : (w.alloc (.cells A 24)).cell? ⟨w.heap.size, 4, none⟩ = some (.int .u8 x3) := by rw [cell_of_row _ _ _ _ _ _ hbk]; exact a4
    have HF : Hid (Fr No w (w.alloc (.cells A 24))) := Fr.alloc No _ _
    have HBK := Lib.hid hbk
    clear HE hd hdec hj a1 a2 a3 a4 h0 h1 h2 h3 h4 hbk
    go_enter Tryd.func13, Tryd.ntmps13
    have q24 := Tryd.eqGuardType24
    have t3 := Tryd.underlying3
    have u3 := Tryd.runUnderlying3
    have g3 := Tryd.isAgg3
    have z3 := Tryd.sizeOf3
    have t4 := Tryd.underlying4
    have u4 := Tryd.runUnderlying4
    have g4 := Tryd.isAgg4
    have z4 := Tryd.sizeOf4
    have t5 := Tryd.underlying5
    have u5 := Tryd.runUnderlying5
    have g5 := Tryd.isAgg5
    have z5 := Tryd.sizeOf5
    have t22 := Tryd.underlying22
    have u22 := Tryd.runUnderlying22
    have g22 := Tryd.isAgg22
    have z22 := Tryd.sizeOf22
    have t24 := Tryd.underlying24
    have u24 := Tryd.runUnderlying24
    have g24 := Tryd.isAgg24
    have z24 := Tryd.sizeOf24
    have c27 := Tryd.call27
    have mixed : Tryd.prog.follows .mixedOrders = true := by kernel_rfl
    obtain ⟨k24, hk24⟩ : ∃ k, k = 17 := ⟨_, rfl⟩
    rw [← hk24] at z24
    have nk24 : ¬ k24 = 0 := by omega
    have HK24 := Lib.hid hk24
    have hP : Tryd.prog = PD := rfl
    rw [hP] at t3 u3 g3 z3 t4 u4 g4 z4 t5 u5 g5 z5 t22 u22 g22 z22 t24 u24 g24 z24 c27 mixed hl1 hE q24 ⊢
    have HP := Lib.hid hP.symm
    clear hP hk24
    rw [← HK24.out] at hl1
    go_wp2_with fail
    obtain ⟨bk, hbk⟩ : ∃ bk, w.heap.size = bk := ⟨_, rfl⟩
    rw [hbk] at hl1 k0 k1 k2 k3 k4 HBK ⊢
    clear hbk
    generalize w.alloc (.cells A 24) = w1 at hl1 k0 k1 k2 k3 k4 HF HBK ⊢
    clear hl1
    have hld : ∀ w', Fr No w1 w' → Sem.run PD (loadCellsFrom ⟨bk, 0, none⟩ 0 k24 #[]) w' = .ok A w' := fun w' hf => by rw [HK24.out]; exact load_block (hf.keep HBK.out) hsz (fun j v hv => by simpa using hv)
    have hl2 := hld _ (Fr.drew No w1)
    have HL := Lib.hid hld
    clear hld
    go_region_held3 (fun w' => Sem.run PD (loadCellsFrom ⟨bk, 0, none⟩ 0 k24 #[]) w' = .ok A w' ∧ w'.cell? ⟨bk, 0, none⟩ = some (.bool false) ∧ w'.cell? ⟨bk, 1, none⟩ = some (.int .u8 x0) ∧ w'.cell? ⟨bk, 2, none⟩ = some (.int .u8 x1) ∧ w'.cell? ⟨bk, 3, none⟩ = some (.int .u8 x2) ∧ w'.cell? ⟨bk, 4, none⟩ = some (.int .u8 x3)) (go_keep) (first | (go_at_call 27; refine (at_prog HP.out (v4_any x0 x1 x2 x3 _)).mono ?_; rintro e w2 ⟨rfl, hf⟩; rw [HB.out]; have hf2 := (Fr.drew No w1).trans hf; have l2 := HL.out _ hf2; have m0 := hf2.cell k0; have m1 := hf2.cell k1; have m2 := hf2.cell k2; have m3 := hf2.cell k3; have m4 := hf2.cell k4; have HF2 := Lib.hid (HF.out.trans hf2); clear hf hf2))
    go_wp2_with fail
    go_ret
    exact ⟨rfl, HF2.out⟩
  · have HV : Hid (validA true xs = true) := rfl
    rw [show validA true xs = true from rfl]
    clear hj HE
    have k0 : (w.alloc (.cells A 24)).cell? ⟨w.heap.size, 0, none⟩ = some (.bool true) := by rw [cell_of_row _ _ _ _ _ _ (heap_alloc_new w _)]; exact h0
    have HF : Hid (Fr No w (w.alloc (.cells A 24))) := Fr.alloc No _ _
    clear h0
    go_enter Tryd.func13, Tryd.ntmps13
    go_wp2_with fail
    obtain ⟨bk, hbk⟩ : ∃ bk, w.heap.size = bk := ⟨_, rfl⟩
    rw [hbk] at k0 ⊢
    clear hbk
    generalize w.alloc (.cells A 24) = w1 at k0 HF ⊢
    go_quiet (fail)
    go_wp2_with fail
    go_ret
    exact ⟨rfl, HF.out.trans (Fr.drewN _ _ _)⟩

end Go.Proofs.YtdnfmilihfkhmaaDoor
