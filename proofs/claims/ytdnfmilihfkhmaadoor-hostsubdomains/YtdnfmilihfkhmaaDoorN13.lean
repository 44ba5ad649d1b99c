/-
  CONTRACT of the fixed example of the laws about package host, over this seat's translation: the call returns true.
  Conditions: the package variables are as Gl says.
-/
import Derived.Test.YtdnfmilihfkhmaaDoorHx
namespace Go.Proofs.YtdnfmilihfkhmaaDoor
open Go.ChangeShapes Go.WideShapes Go.ChangeAt Go.RowKit
set_option linter.unusedVariables false

theorem zero22 : ∀ w, (zeroValue 22).run Tryd.prog w = .ok (.agg (nums .u8 zeros).toArray) w := by
  intro w
  kernel_rfl
set_option maxRecDepth 10000 in
theorem hxB1 : (nums .u8 zeros).toArray.setIfInBounds 15 (.int .u8 1) = (nums .u8 hxOne).toArray := by kernel_rfl
set_option maxRecDepth 10000 in
theorem hxE1 : Array.foldl (fun (cs : Array Value) (x : Value × Nat) => cs.setIfInBounds (1 + x.snd) x.fst) ((adr false zeros).toArray.setIfInBounds 0 (.bool true)) (nums .u8 hxOne).toArray.zipIdx 0 16 = (adr true hxOne).toArray := by kernel_rfl
theorem hxM1 : Array.foldl (fun (cs : Array Value) (x : Value × Nat) => cs.setIfInBounds (1 + x.snd) x.fst) noT.toArray (adr true hxOne).toArray.zipIdx 0 17 = (tgt ⟨#[]⟩ true hxOne 0).toArray := put_addr true hxOne rfl
set_option maxRecDepth 10000 in
theorem hxT1 : (tgt ⟨#[]⟩ true hxOne 0).toArray.setIfInBounds 18 (.int .i64 443) = (tgt ⟨#[]⟩ true hxOne 443).toArray := by kernel_rfl
theorem hxOne_bytes : Bytes hxOne := ⟨rfl, by decide⟩

set_option maxHeartbeats 8000000 in
set_option maxRecDepth 100000 in
theorem hawake_any (w : World) (hG : Gl w) :
    Calls Tryd.prog 32 #[] w fun e w' => e = .returned (.bool true) ∧ Fr No w w' := by
  obtain ⟨Z, hZ⟩ : ∃ Z : Array Value, noT.toArray = Z := ⟨_, rfl⟩
  obtain ⟨Y, hY⟩ : ∃ Y : Array Value, (adr false zeros).toArray = Y := ⟨_, rfl⟩
  obtain ⟨X, hX⟩ : ∃ X : Array Value, (nums .u8 zeros).toArray = X := ⟨_, rfl⟩
  obtain ⟨B, hB⟩ : ∃ B : Array Value, (nums .u8 hxOne).toArray = B := ⟨_, rfl⟩
  obtain ⟨E, hE⟩ : ∃ E : Array Value, (adr true hxOne).toArray = E := ⟨_, rfl⟩
  obtain ⟨T, hT⟩ : ∃ T : Array Value, (tgt ⟨#[]⟩ true hxOne 443).toArray = T := ⟨_, rfl⟩
  have v62 := zero62
  have v24 := zero24
  have v22 := zero22
  have b1 := hxB1
  have b2 := hxE1
  have b3 := hxM1
  have b4 := hxT1
  obtain ⟨M, hM⟩ : ∃ M : Array Value, (tgt ⟨#[]⟩ true hxOne 0).toArray = M := ⟨_, rfl⟩
  have hMs : M.size = 19 := by rw [← hM]; rfl
  have hEq : ∀ w, Sem.run Tryd.prog (Op.equalIn 10000 62 (.agg T) (.agg T)) w = .ok true w := fun w => by
    rw [← hT]
    have := tgt_eq [] [] (b := true) (c := true) (xs := hxOne) (ys := hxOne) 443 443 hxOne_bytes hxOne_bytes w
    rw [decide_eq_true ⟨rfl, ⟨rfl, rfl⟩, rfl⟩] at this
    exact this
  have HPN : Hid (∀ w, Calls Tryd.prog 52 #[.string ⟨#[87, 87, 87, 46, 69, 120, 97, 109, 112, 108, 101, 46, 111, 114, 103, 46]⟩] w fun e w' => e = .returned (.tuple #[.string ⟨#[119, 119, 119, 46, 101, 120, 97, 109, 112, 108, 101, 46, 111, 114, 103]⟩, .bool true]) ∧ Fr No w w') := fun w => by
    have h1 := pname_any hxW (by decide) w
    rw [hx1] at h1
    exact h1
  have HPA : Hid (∀ w, Glob w → Calls Tryd.prog 53 #[.string ⟨#[91, 58, 58, 49, 93, 58, 52, 52, 51]⟩] w fun e w' => e = .returned (.tuple #[.agg T, .bool true]) ∧ Fr No w w') := fun w h => by
    have h1 := ptarget_any hxA w h (by decide)
    rw [hx2.1, hx2.2, hT] at h1
    exact h1
  have HPB : Hid (∀ w, Glob w → Calls Tryd.prog 53 #[.string ⟨#[49, 46, 50, 46, 51, 58, 52]⟩] w fun e w' => e = .returned (.tuple #[.agg Z, .bool false]) ∧ Fr No w w') := fun w h => by
    have h1 := ptarget_any hxB w h (by decide)
    rw [hx3.1, hx3.2, hZ] at h1
    exact h1
  have HS1 : Hid (∀ w, Calls Tryd.prog 30 #[.string ⟨#[97, 46, 98, 46, 99]⟩, .string ⟨#[98, 46, 99]⟩] w fun e w' => e = .returned (.bool true) ∧ w' = w) := fun w => by
    have h1 := sub_any [97, 46, 98, 46, 99] [98, 46, 99] (by decide) (by decide) w
    rw [hx4] at h1
    exact h1
  have HS2 : Hid (∀ w, Calls Tryd.prog 30 #[.string ⟨#[97, 98, 46, 99]⟩, .string ⟨#[98, 46, 99]⟩] w fun e w' => e = .returned (.bool false) ∧ w' = w) := fun w => by
    have h1 := sub_any [97, 98, 46, 99] [98, 46, 99] (by decide) (by decide) w
    rw [hx5] at h1
    exact h1
  have HCN : Hid (∀ w, Calls Tryd.prog 33 #[.string ⟨#[97, 46, 98, 46, 99]⟩] w fun e w' => e = .returned (.int .i64 3) ∧ w' = w) := fun w => by
    have h1 := cnt_any [97, 46, 98, 46, 99] w
    rw [hx6] at h1
    exact h1
  have HFM : Hid (∀ w, Gl w → Calls Tryd.prog 54 #[.agg T] w fun e w' => e = .returned (.string ⟨#[91, 58, 58, 49, 93, 58, 52, 52, 51]⟩) ∧ Fr No w w') := fun w h => by
    have h1 := format_t [] true hxOne 443 hxOne_bytes w h
    rw [hx8] at h1
    rw [← hT]
    exact h1
  have HVL : Hid (∀ w, Calls Tryd.prog 55 #[.agg T] w fun e w' => e = .returned (.bool true) ∧ Fr No w w') := fun w => by
    have h1 := valid_t [] true hxOne 443 hxOne_bytes w
    rw [hx7] at h1
    rw [← hT]
    exact h1
  have hT1 : ∀ u ∈ T.toList, u.oneCell' = true := by rw [← hT]; intro u hu; exact tgt_one _ _ _ _ u (by simpa using hu)
  have hZ1 : ∀ u ∈ Z.toList, u.oneCell' = true := by rw [← hZ]; exact tgt_one _ _ _ _
  have hs : Z.size = 19 ∧ T.size = 19 ∧ Y.size = 17 ∧ E.size = 17 ∧ X.size = 16 ∧ B.size = 16 := ⟨by rw [← hZ]; rfl, by rw [← hT]; rfl, by rw [← hY]; rfl, by rw [← hE]; rfl, by rw [← hX]; rfl, by rw [← hB]; rfl⟩
  rw [hZ] at v62 b3
  rw [hY] at v24 b2
  rw [hX] at v22 b1
  rw [hB] at b1 b2
  rw [hE] at b2 b3
  rw [hT] at b4
  rw [hM] at b3 b4
  have HT := Lib.hid (And.intro hT1 (And.intro hZ1 hG))
  clear hM hZ hY hX hB hE hT hT1 hZ1 hG
  have q62 := Tryd.eqGuardType62
  go_enter Tryd.func32, Tryd.ntmps32
  have t3 := Tryd.underlying3
  have u3 := Tryd.runUnderlying3
  have g3 := Tryd.isAgg3
  have z3 := Tryd.sizeOf3
  have t4 := Tryd.underlying4
  have u4 := Tryd.runUnderlying4
  have g4 := Tryd.isAgg4
  have z4 := Tryd.sizeOf4
  have t5 := Tryd.underlying5
  have u5 := Tryd.runUnderlying5
  have g5 := Tryd.isAgg5
  have z5 := Tryd.sizeOf5
  have t9 := Tryd.underlying9
  have u9 := Tryd.runUnderlying9
  have g9 := Tryd.isAgg9
  have z9 := Tryd.sizeOf9
  have t22 := Tryd.underlying22
  have u22 := Tryd.runUnderlying22
  have g22 := Tryd.isAgg22
  have z22 := Tryd.sizeOf22
  have t24 := Tryd.underlying24
  have u24 := Tryd.runUnderlying24
  have g24 := Tryd.isAgg24
  have z24 := Tryd.sizeOf24
  have t62 := Tryd.underlying62
  have u62 := Tryd.runUnderlying62
  have g62 := Tryd.isAgg62
  have z62 := Tryd.sizeOf62
  have c52 := Tryd.call52
  have c53 := Tryd.call53
  have c30 := Tryd.call30
  have c33 := Tryd.call33
  have c54 := Tryd.call54
  have c55 := Tryd.call55
  have mixed : Tryd.prog.follows .mixedOrders = true := by kernel_rfl
  obtain ⟨k22, hk22⟩ : ∃ k, k = 16 := ⟨_, rfl⟩
  rw [← hk22] at z22
  have nk22 : ¬ k22 = 0 := by omega
  have HK22 := Lib.hid hk22
  obtain ⟨k24, hk24⟩ : ∃ k, k = 17 := ⟨_, rfl⟩
  rw [← hk24] at z24
  have nk24 : ¬ k24 = 0 := by omega
  have HK24 := Lib.hid hk24
  obtain ⟨k62, hk62⟩ : ∃ k, k = 19 := ⟨_, rfl⟩
  rw [← hk62] at z62
  have nk62 : ¬ k62 = 0 := by omega
  have HK62 := Lib.hid hk62
  have hP : Tryd.prog = PD := rfl
  rw [hP] at t3 u3 g3 z3 t4 u4 g4 z4 t5 u5 g5 z5 t9 u9 g9 z9 t22 u22 g22 z22 t24 u24 g24 z24 t62 u62 g62 z62 c52 c53 c30 c33 c54 c55 mixed v62 v24 v22 hEq q62 ⊢
  have HP := Lib.hid hP.symm
  clear hP hk22 hk24 hk62
  have hZk : Z.size = k62 := by rw [HK62.out]; exact hs.1
  have hTk : T.size = k62 := by rw [HK62.out]; exact hs.2.1
  have hYk : Y.size = k24 := by rw [HK24.out]; exact hs.2.2.1
  have hEk : E.size = k24 := by rw [HK24.out]; exact hs.2.2.2.1
  have hXk : X.size = k22 := by rw [HK22.out]; exact hs.2.2.2.2.1
  have hBk : B.size = k22 := by rw [HK22.out]; exact hs.2.2.2.2.2
  have hMk : M.size = k62 := by rw [HK62.out]; exact hMs
  have i1 : 15 < k22 := by have := HK22.out; omega
  have i2 : 1 + k22 ≤ k24 := by have := HK22.out; have := HK24.out; omega
  have i3 : 1 + k24 ≤ k62 := by have := HK24.out; have := HK62.out; omega
  have i4 : 18 < k62 := by have := HK62.out; omega
  have hYne : ¬ Y = #[] := by intro e; have := hs.2.2.1; rw [e] at this; cases this
  have j1 : k22 = 16 := HK22.out
  have j2 : k24 = 17 := HK24.out
  rw [← j1] at b2
  rw [← j2] at b3
  clear hs j1 j2 hMs
  go_wp2_with (first | (go_at_call 52; refine (at_prog HP.out (HPN.out _)).mono ?_; rintro e w1 ⟨rfl, hf1⟩) | fail)
  refine (at_prog HP.out (HPA.out _ (HT.out.2.2.fr hf1).g)).mono ?_
  rintro e w2 ⟨rfl, hf2⟩
  obtain ⟨y1, hs1, hb1, hg1⟩ := store_all (P := PD) T.toList (heap_alloc_new w2 (.cells Z 62)) (by rw [Array.length_toList, hTk, hZk]) HT.out.1
  have hb1' : y1.heap[w2.heap.size]? = some (.cells T 62 (0, 0)) := by simpa using hb1
  have F1 := Lib.hid (((hf1.trans hf2).trans (Fr.alloc No w2 (.cells Z 62))).ofNew hg1 fun k hk => .inr (by rw [hk]; exact (hf1.trans hf2).size))
  have B1 := Lib.hid hb1'
  clear hb1 hb1' hg1 hf1 hf2
  go_wp2_with fail
  refine (at_prog HP.out (HPB.out _ (HT.out.2.2.fr F1.out).g)).mono ?_
  rintro e w3 ⟨rfl, hf3⟩
  obtain ⟨y2, hs2, hb2, hg2⟩ := store_all (P := PD) Z.toList (heap_alloc_new w3 (.cells Z 62)) (by rw [Array.length_toList]) HT.out.2.1
  have hb0 : y2.heap[w2.heap.size]? = some (.cells T 62 (0, 0)) := by
    have k0 := hf3.keep B1.out
    have k1 := (Fr.alloc No w3 (.cells Z 62)).keep k0
    have l0 := (Array.getElem?_eq_some_iff.1 k0).1
    exact (hg2.block _ (Array.getElem?_eq_some_iff.1 k1).1 (by omega)).trans k1
  have F2 := Lib.hid (((F1.out.trans hf3).trans (Fr.alloc No w3 (.cells Z 62))).ofNew hg2 fun k hk => .inr (by rw [hk]; exact (F1.out.trans hf3).size))
  have HLD : Hid (∀ w', Fr No y2 w' → Sem.run PD (loadCellsFrom ⟨w2.heap.size, 0, none⟩ 0 k62 #[]) w' = .ok T w') := fun w' hf => load_block (hf.keep hb0) hTk (fun j v hv => by simpa using hv)
  have m1 := HLD.out _ (Fr.refl No y2)
  clear hb2 hg2 hf3 hb0 hs1
  go_wp2_with (first | (go_at_call 30; with_reducible refine (at_prog HP.out (HS1.out _)).mono ?_; rintro e wa ⟨rfl, hwa⟩; subst hwa) | (go_at_call 30; with_reducible refine (at_prog HP.out (HS2.out _)).mono ?_; rintro e wb ⟨rfl, hwb⟩; subst hwb) | (go_at_call 33; refine (at_prog HP.out (HCN.out _)).mono ?_; rintro e wc ⟨rfl, hwc⟩; subst hwc) | (go_at_call 54; refine (at_prog HP.out (HFM.out _ (HT.out.2.2.fr F2.out))).mono ?_; rintro e w6 ⟨rfl, hf6⟩; have m2 := HLD.out _ hf6) | (go_at_call 55; refine (at_prog HP.out (HVL.out _)).mono ?_; rintro e w7 ⟨rfl, hf7⟩) | fail)
  go_ret
  exact ⟨rfl, (F2.out.trans hf6).trans hf7⟩
end Go.Proofs.YtdnfmilihfkhmaaDoor
