/-
  CONTRACT of the reference's ParsePrefix, over this seat's translation: what the call returns.
  Conditions: the string is shorter than 2 to the 31.
-/
import Derived.Test.YtmhnailcmlomiaaGreatDoorDb
import Derived.Test.YtmhnailcmlomiaaGreatDoorCg
import Derived.Test.YtmhnailcmlomiaaGreatDoorR8
namespace Go.Proofs.YtmhnailcmlomiaaGreatDoor
open Go.ChangeShapes Go.WideShapes Go.ChangeAt Go.RowKit
set_option linter.unusedVariables false

theorem bitsV_nil : bitsV [] = none := rfl
/-- The number behind the slash, as the reference reads it. -/
theorem bits_valid {b : Bool} {xs : List Nat} (y : List UInt8) : ((bitsV y).isSome && validP b xs ((bitsV y).getD 0)) = validP b xs (decI (decR 128 y)) := by
  cases hd : decR 128 y with
  | some n =>
    rw [bitsV_dec hd]
    rfl
  | none =>
    have h1 : validP b xs (decI none) = false := by
      cases hv : validP b xs (decI none) with
      | false => rfl
      | true => exact absurd (validP_parts hv).2.1 (by decide)
    rw [h1]
    cases hb : bitsV y with
    | none => rfl
    | some v =>
      cases hv : validP b xs v with
      | false => simp [hv]
      | true =>
        have hp := validP_parts hv
        have := bitsV_inv hb hp.2.1 (Int.le_trans hp.2.2.1 (bitsOf_le b).2)
        rw [hd] at this
        cases this
theorem cp_two {l x y : List UInt8} (h : splitc 47 l = [x, y]) : cpX l = x ∧ cpY l = y := by
  rw [split_cut] at h
  cases hc : cutc 47 l with
  | none => rw [hc] at h; cases h
  | some p =>
    obtain ⟨a, b⟩ := p
    rw [hc] at h
    have h1 : a :: splitc 47 b = [x, y] := h
    have hx : a = x := (List.cons.inj h1).1
    have hy : splitc 47 b = [y] := (List.cons.inj h1).2
    have hb : b = y := by
      rw [split_cut] at hy
      cases hc2 : cutc 47 b with
      | none => rw [hc2] at hy; exact (List.cons.inj hy).1
      | some q =>
        obtain ⟨q1, q2⟩ := q
        rw [hc2] at hy
        exact absurd (List.cons.inj hy).2 (split_ne 47 q2)
    unfold cpX cpY
    rw [hc]
    exact ⟨hx, hb⟩
theorem cp_other {l : List UInt8} (h : (splitc 47 l).length ≠ 2) : cpB l = false := by
  unfold cpB
  rw [Bool.and_assoc]
  unfold cpN
  rw [bits_valid]
  cases hv : validP (resB (parseS (cpX l))) (resX (parseS (cpX l))) (decI (decR 128 (cpY l))) with
  | false => simp
  | true =>
    exfalso
    cases hd : decR 128 (cpY l) with
    | none => rw [hd] at hv; exact absurd (validP_parts hv).2.1 (by decide)
    | some n =>
      have hall := decR_all hd
      rw [split_cut] at h
      unfold cpY at hd hall
      cases hc : cutc 47 l with
      | none =>
        rw [hc] at hd
        cases hd
      | some p =>
        obtain ⟨a, b⟩ := p
        rw [hc] at h hall
        have hb : splitc 47 b = [b] := splitc_none fun x hx e => by
          have := hall x hx
          rw [e] at this
          exact absurd this.1 (by decide)
        exact h (by show (a :: splitc 47 b).length = 2; rw [hb]; rfl)
theorem cp_ref {l : List UInt8} : cpB l = ((parseS (cpX l)).isSome && validP (resB (parseS (cpX l))) (resX (parseS (cpX l))) (decI (decR 128 (cpY l)))) := by
  unfold cpB cpN
  rw [Bool.and_assoc, bits_valid]
theorem cp_num {l : List UInt8} (h : cpB l = true) : cpN l = decI (decR 128 (cpY l)) := by
  have h2 := h
  rw [cp_ref, Bool.and_eq_true] at h2
  have hp := validP_parts h2.2
  cases hd : decR 128 (cpY l) with
  | none => rw [hd] at hp; exact absurd hp.2.1 (by decide)
  | some n => unfold cpN; rw [bitsV_dec hd]; rfl

set_option maxHeartbeats 8000000 in
set_option maxRecDepth 100000 in
theorem cparse_ref (l : List UInt8) (hl : l.length < 2147483648) (w : World) :
    Calls Tryz.prog 32 #[.string (bs l)] w fun e w' => e = .returned (.tuple #[.agg (cpT l).toArray, .bool (cpB l)]) ∧ Fr No w w' := by
  obtain ⟨Z, hZ⟩ : ∃ Z : Array Value, noP.toArray = Z := ⟨_, rfl⟩
  obtain ⟨Y, hY⟩ : ∃ Y : Array Value, (adr false zeros).toArray = Y := ⟨_, rfl⟩
  have v40 := zero40
  have v30 := zero30
  rw [hZ] at v40
  rw [hY] at v30
  have hZs : Z.size = 18 := by rw [← hZ]; rfl
  have hYs : Y.size = 17 := by rw [← hY]; rfl
  have hZ1 : ∀ u ∈ Z.toList, u.oneCell' = true := by rw [← hZ]; exact pfx_one _ _ _
  have HSP : Hid (∀ w', Calls Tryz.prog 68 #[.string (bs l), .int .u8 47] w' fun e w'' => ∃ a cap, e = .returned (.slice a (splitc 47 l).length cap) ∧ w''.ownsRow w'.heap.size 9 1 (.slice a (splitc 47 l).length cap) (splitc 47 l).length (strs ((splitc 47 l).map bs)) ∧ Fr No w' w'') := fun w' => split_ref l 47 hl w'
  by_cases h2 : (splitc 47 l).length = 2
  · obtain ⟨x, y, hxy⟩ : ∃ x y, splitc 47 l = [x, y] := by
      match h : splitc 47 l with
      | [x, y] => exact ⟨x, y, rfl⟩
      | [] => rw [h] at h2; cases h2
      | [_] => rw [h] at h2; cases h2
      | _ :: _ :: _ :: _ => rw [h] at h2; simp at h2
    obtain ⟨hcx, hcy⟩ := cp_two hxy
    have hlen := cutR_len l 47
    rw [show (cutR l (cutc 47 l)).1 = x from hcx, show (cutR l (cutc 47 l)).2.1 = y from hcy] at hlen
    rw [hxy] at HSP
    have HSP2 : Hid (∀ w', Calls Tryz.prog 68 #[.string (bs l), .int .u8 47] w' fun e w'' => ∃ (g cap : Nat), e = .returned (.slice (some ⟨g, 0, none⟩) 2 cap) ∧ w''.cell? ⟨g, 0, none⟩ = some (.string (bs x)) ∧ w''.cell? ⟨g, 1, none⟩ = some (.string (bs y)) ∧ Fr No w' w'') := fun w' => by
      refine (HSP.out w').mono ?_
      rintro e w'' ⟨a, cap, rfl, hown, hf⟩
      obtain ⟨g, cap', hv, -⟩ := hown.form (by simp)
      cases hv
      have h0 := hown.cellAt 0 (by simp)
      have h1 := hown.cellAt 1 (by simp)
      exact ⟨g, cap, rfl, h0, h1, hf⟩
    have HPA : Hid (∀ w', Calls Tryz.prog 69 #[.string (bs x)] w' fun e w'' => e = .returned (.tuple #[.agg (adr (resB (parseS x)) (resX (parseS x))).toArray, .bool (parseS x).isSome]) ∧ Fr No w' w'') := fun w' => parse_ref x (Nat.lt_of_le_of_lt hlen.1 hl) w'
    have HPD : Hid (∀ w', Calls Tryz.prog 70 #[.string (bs y), .int .i64 128] w' fun e w'' => e = .returned (.int .i64 (decI (decR 128 y))) ∧ w'' = w') := fun w' => pdec_ref y 128 w'
    have hbx := resX_bytes x
    have HVP : Hid (∀ w', Calls Tryz.prog 20 #[.agg (pfx (resB (parseS x)) (resX (parseS x)) (decI (decR 128 y))).toArray] w' fun e w'' => e = .returned (.bool (validP (resB (parseS x)) (resX (parseS x)) (decI (decR 128 y)))) ∧ Fr No w' w'') := fun w' => validp_ref _ _ _ hbx w'
    have hR1 : cpB l = ((parseS x).isSome && validP (resB (parseS x)) (resX (parseS x)) (decI (decR 128 y))) := by rw [cp_ref, hcx, hcy]
    have hR2 : cpT l = if (parseS x).isSome && validP (resB (parseS x)) (resX (parseS x)) (decI (decR 128 y)) then pfx (resB (parseS x)) (resX (parseS x)) (decI (decR 128 y)) else noP := by
      unfold cpT
      rw [← hR1]
      by_cases h : cpB l = true
      · rw [if_pos h, if_pos h, cp_num h, hcx, hcy]
      · rw [if_neg h, if_neg h]
    rw [hR1, hR2]
    have hfold := put_pfx (resB (parseS x)) (resX (parseS x)) (decI (decR 128 y)) hbx.1
    have hT18 : (pfx (resB (parseS x)) (resX (parseS x)) (decI (decR 128 y))).toArray.size = 18 := by rw [List.size_toArray]; exact pfx_length hbx.1
    have hT1 : ∀ u ∈ (pfx (resB (parseS x)) (resX (parseS x)) (decI (decR 128 y))).toArray.toList, u.oneCell' = true := by intro u hu; exact pfx_one _ _ _ u (by simpa using hu)
    have hA17 : (adr (resB (parseS x)) (resX (parseS x))).toArray.size = 17 := by rw [List.size_toArray, adr_length, hbx.1]
    have hA1 : ∀ u ∈ (adr (resB (parseS x)) (resX (parseS x))).toArray.toList, u.oneCell' = true := by intro u hu; exact adr_one _ _ u (by simpa using hu)
    rw [hZ] at hfold
    clear hbx hlen hR1 hR2 hcx hcy hxy h2 HSP
    generalize validP (resB (parseS x)) (resX (parseS x)) (decI (decR 128 y)) = vv at HVP ⊢
    generalize pfx (resB (parseS x)) (resX (parseS x)) (decI (decR 128 y)) = TL at HVP hfold hT18 hT1 ⊢
    obtain ⟨T, hT⟩ : ∃ T : Array Value, TL.toArray = T := ⟨_, rfl⟩
    rw [hT] at HVP hfold hT18 hT1
    generalize (adr (resB (parseS x)) (resX (parseS x))).toArray = A at HPA hfold hA17 hA1
    generalize decI (decR 128 y) = n at HPD hfold
    generalize (parseS x).isSome = ok1 at HPA ⊢
    generalize bs x = sx at HSP2 HPA
    generalize bs y = sy at HSP2 HPD
    generalize bs l = s at HSP2 ⊢
    obtain ⟨M, hM⟩ : ∃ M, Array.foldl (fun (cs : Array Value) (x : Value × Nat) => cs.setIfInBounds x.snd x.fst) Z A.zipIdx 0 17 = M := ⟨_, rfl⟩
    rw [hM] at hfold
    have hMs : M.size = 18 := by have h := hT18; rw [← hfold, Array.size_setIfInBounds] at h; exact h
    have HZ := Lib.hid (And.intro hZ (And.intro hZ1 (And.intro hT (And.intro hT1 (And.intro hA1 (And.intro hT18 hZs))))))
    clear hl hZ hY hZ1 hT hT1 hA1
    cases ok1
    · go_enter Tryz.func32, Tryz.ntmps32
      have t3 := Tryz.underlying3
      have u3 := Tryz.runUnderlying3
      have g3 := Tryz.isAgg3
      have z3 := Tryz.sizeOf3
      have t4 := Tryz.underlying4
      have u4 := Tryz.runUnderlying4
      have g4 := Tryz.isAgg4
      have z4 := Tryz.sizeOf4
      have t5 := Tryz.underlying5
      have u5 := Tryz.runUnderlying5
      have g5 := Tryz.isAgg5
      have z5 := Tryz.sizeOf5
      have t9 := Tryz.underlying9
      have u9 := Tryz.runUnderlying9
      have g9 := Tryz.isAgg9
      have z9 := Tryz.sizeOf9
      have t30 := Tryz.underlying30
      have u30 := Tryz.runUnderlying30
      have g30 := Tryz.isAgg30
      have z30 := Tryz.sizeOf30
      have t40 := Tryz.underlying40
      have u40 := Tryz.runUnderlying40
      have g40 := Tryz.isAgg40
      have z40 := Tryz.sizeOf40
      have t75 := Tryz.underlying75
      have u75 := Tryz.runUnderlying75
      have g75 := Tryz.isAgg75
      have z75 := Tryz.sizeOf75
      have c68 := Tryz.call68
      have c69 := Tryz.call69
      have c70 := Tryz.call70
      have c20 := Tryz.call20
      have mixed : Tryz.prog.follows .mixedOrders = true := by kernel_rfl
      obtain ⟨k30, hk30⟩ : ∃ k, k = 17 := ⟨_, rfl⟩
      rw [← hk30] at z30
      have nk30 : ¬ k30 = 0 := by omega
      have HK30 := Lib.hid hk30
      obtain ⟨k40, hk40⟩ : ∃ k, k = 18 := ⟨_, rfl⟩
      rw [← hk40] at z40
      have nk40 : ¬ k40 = 0 := by omega
      have HK40 := Lib.hid hk40
      have hP : Tryz.prog = PD := rfl
      rw [hP] at t3 u3 g3 z3 t4 u4 g4 z4 t5 u5 g5 z5 t9 u9 g9 z9 t30 u30 g30 z30 t40 u40 g40 z40 t75 u75 g75 z75 c68 c69 c70 c20 mixed v30 v40 ⊢
      have HP := Lib.hid hP.symm
      clear hP hk30 hk40
      have hAk : A.size = k30 := by rw [HK30.out]; exact hA17
      have hYk : Y.size = k30 := by rw [HK30.out]; exact hYs
      have hZk : Z.size = k40 := by rw [HK40.out]; exact hZs
      have hTk : T.size = k40 := by rw [HK40.out]; exact hT18
      have hMk : M.size = k40 := by rw [HK40.out]; exact hMs
      rw [← HK30.out] at hM
      have i3 : k30 ≤ k40 := by have := HK30.out; have := HK40.out; omega
      have i4 : 17 < k40 := by have := HK40.out; omega
      clear hA17 hYs hZs hT18 hMs
      have hb0 := heap_alloc_new w (.cells Z 40)
      have F0 : Fr No w (w.alloc (.cells Z 40)) := Fr.alloc _ _ _
      obtain ⟨w0, hw0⟩ : ∃ w0, w.alloc (.cells Z 40) = w0 := ⟨_, rfl⟩
      rw [hw0] at hb0 F0
      go_wp2_with (first | (go_at_call 68; refine (at_prog HP.out (HSP2.out _)).mono ?_; rintro e w1 ⟨g, cap, rfl, c0, c1, hf1⟩) | (go_at_call 69; refine (at_prog HP.out (HPA.out _)).mono ?_; rintro e w2 ⟨rfl, hf2⟩; obtain ⟨y1, hst1, hyb1, hyf1⟩ := store_all (P := PD) A.toList (heap_alloc_new w2 (.cells Y 30)) (by rw [Array.length_toList, hAk, hYk]) HZ.out.2.2.2.2.1; have F1a : Fr No w1 y1 := (hf2.trans (Fr.alloc No w2 (.cells Y 30))).ofNew hyf1 (fun k hk => .inr (by rw [hk]; exact hf2.size)); have F1 : Fr No w0 y1 := hf1.trans F1a; have d1 := F1a.cell c1; have la : Sem.run PD (loadCellsFrom ⟨w2.heap.size, 0, none⟩ 0 k30 #[]) y1 = .ok A y1 := load_block hyb1 hAk (fun j v hv => by simpa using hv); obtain ⟨y2, hst2, hyb2, hyf2⟩ := store_all (P := PD) T.toList (heap_alloc_new y1 (.cells Z 40)) (by rw [Array.length_toList, hTk, hZk]) HZ.out.2.2.2.1; have F2 : Fr No w0 y2 := (F1.trans (Fr.alloc No y1 (.cells Z 40))).ofNew hyf2 (fun k hk => .inr (by rw [hk]; exact F1.size)); have lt : Sem.run PD (loadCellsFrom ⟨y1.heap.size, 0, none⟩ 0 k40 #[]) y2 = .ok T y2 := load_block hyb2 hTk (fun j v hv => by simpa using hv); obtain ⟨y3, hst3, hyb3, hyf3⟩ := store_all (P := PD) Z.toList (F2.keep hb0) (by rw [Array.length_toList]) HZ.out.2.1) | (go_at_call 70; refine (at_prog HP.out (HPD.out _)).mono ?_; rintro e w3 ⟨rfl, hw3⟩; replace hw3 := hw3.symm; subst hw3) | fail)
      refine bodyPost_ret_by (results_agg_tmp rfl _ (b := w.heap.size) (k := 18) (cs := Z) (Tryz.isAgg40 _) (Tryz.sizeOf40 _) rfl (load_block hyb3 HZ.out.2.2.2.2.2.2 (fun j v hv => by simpa using hv))) rfl ?_
      exact ⟨by rw [← HZ.out.1]; rfl, (F0.trans F2).ofNew hyf3 fun k hk => .inr (by rw [hk]; exact Nat.le_refl _)⟩
    · cases vv
      · go_enter Tryz.func32, Tryz.ntmps32
        have t3 := Tryz.underlying3
        have u3 := Tryz.runUnderlying3
        have g3 := Tryz.isAgg3
        have z3 := Tryz.sizeOf3
        have t4 := Tryz.underlying4
        have u4 := Tryz.runUnderlying4
        have g4 := Tryz.isAgg4
        have z4 := Tryz.sizeOf4
        have t5 := Tryz.underlying5
        have u5 := Tryz.runUnderlying5
        have g5 := Tryz.isAgg5
        have z5 := Tryz.sizeOf5
        have t9 := Tryz.underlying9
        have u9 := Tryz.runUnderlying9
        have g9 := Tryz.isAgg9
        have z9 := Tryz.sizeOf9
        have t30 := Tryz.underlying30
        have u30 := Tryz.runUnderlying30
        have g30 := Tryz.isAgg30
        have z30 := Tryz.sizeOf30
        have t40 := Tryz.underlying40
        have u40 := Tryz.runUnderlying40
        have g40 := Tryz.isAgg40
        have z40 := Tryz.sizeOf40
        have t75 := Tryz.underlying75
        have u75 := Tryz.runUnderlying75
        have g75 := Tryz.isAgg75
        have z75 := Tryz.sizeOf75
        have c68 := Tryz.call68
        have c69 := Tryz.call69
        have c70 := Tryz.call70
        have c20 := Tryz.call20
        have mixed : Tryz.prog.follows .mixedOrders = true := by kernel_rfl
        obtain ⟨k30, hk30⟩ : ∃ k, k = 17 := ⟨_, rfl⟩
        rw [← hk30] at z30
        have nk30 : ¬ k30 = 0 := by omega
        have HK30 := Lib.hid hk30
        obtain ⟨k40, hk40⟩ : ∃ k, k = 18 := ⟨_, rfl⟩
        rw [← hk40] at z40
        have nk40 : ¬ k40 = 0 := by omega
        have HK40 := Lib.hid hk40
        have hP : Tryz.prog = PD := rfl
        rw [hP] at t3 u3 g3 z3 t4 u4 g4 z4 t5 u5 g5 z5 t9 u9 g9 z9 t30 u30 g30 z30 t40 u40 g40 z40 t75 u75 g75 z75 c68 c69 c70 c20 mixed v30 v40 ⊢
        have HP := Lib.hid hP.symm
        clear hP hk30 hk40
        have hAk : A.size = k30 := by rw [HK30.out]; exact hA17
        have hYk : Y.size = k30 := by rw [HK30.out]; exact hYs
        have hZk : Z.size = k40 := by rw [HK40.out]; exact hZs
        have hTk : T.size = k40 := by rw [HK40.out]; exact hT18
        have hMk : M.size = k40 := by rw [HK40.out]; exact hMs
        rw [← HK30.out] at hM
        have i3 : k30 ≤ k40 := by have := HK30.out; have := HK40.out; omega
        have i4 : 17 < k40 := by have := HK40.out; omega
        clear hA17 hYs hZs hT18 hMs
        have hb0 := heap_alloc_new w (.cells Z 40)
        have F0 : Fr No w (w.alloc (.cells Z 40)) := Fr.alloc _ _ _
        obtain ⟨w0, hw0⟩ : ∃ w0, w.alloc (.cells Z 40) = w0 := ⟨_, rfl⟩
        rw [hw0] at hb0 F0
        go_wp2_with (first | (go_at_call 68; refine (at_prog HP.out (HSP2.out _)).mono ?_; rintro e w1 ⟨g, cap, rfl, c0, c1, hf1⟩) | (go_at_call 69; refine (at_prog HP.out (HPA.out _)).mono ?_; rintro e w2 ⟨rfl, hf2⟩; obtain ⟨y1, hst1, hyb1, hyf1⟩ := store_all (P := PD) A.toList (heap_alloc_new w2 (.cells Y 30)) (by rw [Array.length_toList, hAk, hYk]) HZ.out.2.2.2.2.1; have F1a : Fr No w1 y1 := (hf2.trans (Fr.alloc No w2 (.cells Y 30))).ofNew hyf1 (fun k hk => .inr (by rw [hk]; exact hf2.size)); have F1 : Fr No w0 y1 := hf1.trans F1a; have d1 := F1a.cell c1; have la : Sem.run PD (loadCellsFrom ⟨w2.heap.size, 0, none⟩ 0 k30 #[]) y1 = .ok A y1 := load_block hyb1 hAk (fun j v hv => by simpa using hv); obtain ⟨y2, hst2, hyb2, hyf2⟩ := store_all (P := PD) T.toList (heap_alloc_new y1 (.cells Z 40)) (by rw [Array.length_toList, hTk, hZk]) HZ.out.2.2.2.1; have F2 : Fr No w0 y2 := (F1.trans (Fr.alloc No y1 (.cells Z 40))).ofNew hyf2 (fun k hk => .inr (by rw [hk]; exact F1.size)); have lt : Sem.run PD (loadCellsFrom ⟨y1.heap.size, 0, none⟩ 0 k40 #[]) y2 = .ok T y2 := load_block hyb2 hTk (fun j v hv => by simpa using hv)) | (go_at_call 70; refine (at_prog HP.out (HPD.out _)).mono ?_; rintro e w3 ⟨rfl, hw3⟩; replace hw3 := hw3.symm; subst hw3) | (go_at_call 20; refine (at_prog HP.out (HVP.out _)).mono ?_; rintro e w4 ⟨rfl, hf4⟩; obtain ⟨y3, hst3, hyb3, hyf3⟩ := store_all (P := PD) Z.toList ((F2.trans hf4).keep hb0) (by rw [Array.length_toList]) HZ.out.2.1) | fail)
        refine bodyPost_ret_by (results_agg_tmp rfl _ (b := w.heap.size) (k := 18) (cs := Z) (Tryz.isAgg40 _) (Tryz.sizeOf40 _) rfl (load_block hyb3 HZ.out.2.2.2.2.2.2 (fun j v hv => by simpa using hv))) rfl ?_
        exact ⟨by rw [← HZ.out.1]; rfl, (F0.trans (F2.trans hf4)).ofNew hyf3 fun k hk => .inr (by rw [hk]; exact Nat.le_refl _)⟩
      · go_enter Tryz.func32, Tryz.ntmps32
        have t3 := Tryz.underlying3
        have u3 := Tryz.runUnderlying3
        have g3 := Tryz.isAgg3
        have z3 := Tryz.sizeOf3
        have t4 := Tryz.underlying4
        have u4 := Tryz.runUnderlying4
        have g4 := Tryz.isAgg4
        have z4 := Tryz.sizeOf4
        have t5 := Tryz.underlying5
        have u5 := Tryz.runUnderlying5
        have g5 := Tryz.isAgg5
        have z5 := Tryz.sizeOf5
        have t9 := Tryz.underlying9
        have u9 := Tryz.runUnderlying9
        have g9 := Tryz.isAgg9
        have z9 := Tryz.sizeOf9
        have t30 := Tryz.underlying30
        have u30 := Tryz.runUnderlying30
        have g30 := Tryz.isAgg30
        have z30 := Tryz.sizeOf30
        have t40 := Tryz.underlying40
        have u40 := Tryz.runUnderlying40
        have g40 := Tryz.isAgg40
        have z40 := Tryz.sizeOf40
        have t75 := Tryz.underlying75
        have u75 := Tryz.runUnderlying75
        have g75 := Tryz.isAgg75
        have z75 := Tryz.sizeOf75
        have c68 := Tryz.call68
        have c69 := Tryz.call69
        have c70 := Tryz.call70
        have c20 := Tryz.call20
        have mixed : Tryz.prog.follows .mixedOrders = true := by kernel_rfl
        obtain ⟨k30, hk30⟩ : ∃ k, k = 17 := ⟨_, rfl⟩
        rw [← hk30] at z30
        have nk30 : ¬ k30 = 0 := by omega
        have HK30 := Lib.hid hk30
        obtain ⟨k40, hk40⟩ : ∃ k, k = 18 := ⟨_, rfl⟩
        rw [← hk40] at z40
        have nk40 : ¬ k40 = 0 := by omega
        have HK40 := Lib.hid hk40
        have hP : Tryz.prog = PD := rfl
        rw [hP] at t3 u3 g3 z3 t4 u4 g4 z4 t5 u5 g5 z5 t9 u9 g9 z9 t30 u30 g30 z30 t40 u40 g40 z40 t75 u75 g75 z75 c68 c69 c70 c20 mixed v30 v40 ⊢
        have HP := Lib.hid hP.symm
        clear hP hk30 hk40
        have hAk : A.size = k30 := by rw [HK30.out]; exact hA17
        have hYk : Y.size = k30 := by rw [HK30.out]; exact hYs
        have hZk : Z.size = k40 := by rw [HK40.out]; exact hZs
        have hTk : T.size = k40 := by rw [HK40.out]; exact hT18
        have hMk : M.size = k40 := by rw [HK40.out]; exact hMs
        rw [← HK30.out] at hM
        have i3 : k30 ≤ k40 := by have := HK30.out; have := HK40.out; omega
        have i4 : 17 < k40 := by have := HK40.out; omega
        clear hA17 hYs hZs hT18 hMs
        have hb0 := heap_alloc_new w (.cells Z 40)
        have F0 : Fr No w (w.alloc (.cells Z 40)) := Fr.alloc _ _ _
        obtain ⟨w0, hw0⟩ : ∃ w0, w.alloc (.cells Z 40) = w0 := ⟨_, rfl⟩
        rw [hw0] at hb0 F0
        go_wp2_with (first | (go_at_call 68; refine (at_prog HP.out (HSP2.out _)).mono ?_; rintro e w1 ⟨g, cap, rfl, c0, c1, hf1⟩) | (go_at_call 69; refine (at_prog HP.out (HPA.out _)).mono ?_; rintro e w2 ⟨rfl, hf2⟩; obtain ⟨y1, hst1, hyb1, hyf1⟩ := store_all (P := PD) A.toList (heap_alloc_new w2 (.cells Y 30)) (by rw [Array.length_toList, hAk, hYk]) HZ.out.2.2.2.2.1; have F1a : Fr No w1 y1 := (hf2.trans (Fr.alloc No w2 (.cells Y 30))).ofNew hyf1 (fun k hk => .inr (by rw [hk]; exact hf2.size)); have F1 : Fr No w0 y1 := hf1.trans F1a; have d1 := F1a.cell c1; have la : Sem.run PD (loadCellsFrom ⟨w2.heap.size, 0, none⟩ 0 k30 #[]) y1 = .ok A y1 := load_block hyb1 hAk (fun j v hv => by simpa using hv); obtain ⟨y2, hst2, hyb2, hyf2⟩ := store_all (P := PD) T.toList (heap_alloc_new y1 (.cells Z 40)) (by rw [Array.length_toList, hTk, hZk]) HZ.out.2.2.2.1; have F2 : Fr No w0 y2 := (F1.trans (Fr.alloc No y1 (.cells Z 40))).ofNew hyf2 (fun k hk => .inr (by rw [hk]; exact F1.size)); have lt : Sem.run PD (loadCellsFrom ⟨y1.heap.size, 0, none⟩ 0 k40 #[]) y2 = .ok T y2 := load_block hyb2 hTk (fun j v hv => by simpa using hv)) | (go_at_call 70; refine (at_prog HP.out (HPD.out _)).mono ?_; rintro e w3 ⟨rfl, hw3⟩; replace hw3 := hw3.symm; subst hw3) | (go_at_call 20; refine (at_prog HP.out (HVP.out _)).mono ?_; rintro e w4 ⟨rfl, hf4⟩; have lt4 : Sem.run PD (loadCellsFrom ⟨y1.heap.size, 0, none⟩ 0 k40 #[]) w4 = .ok T w4 := load_block (hf4.keep hyb2) hTk (fun j v hv => by simpa using hv); obtain ⟨y3, hst3, hyb3, hyf3⟩ := store_all (P := PD) T.toList ((F2.trans hf4).keep hb0) (by rw [Array.length_toList, hTk, hZk]) HZ.out.2.2.2.1) | fail)
        refine bodyPost_ret_by (results_agg_tmp rfl _ (b := w.heap.size) (k := 18) (cs := T) (Tryz.isAgg40 _) (Tryz.sizeOf40 _) rfl (load_block hyb3 HZ.out.2.2.2.2.2.1 (fun j v hv => by simpa using hv))) rfl ?_
        exact ⟨by rw [← HZ.out.2.2.1]; rfl, (F0.trans (F2.trans hf4)).ofNew hyf3 fun k hk => .inr (by rw [hk]; exact Nat.le_refl _)⟩
  · have hR1 := cp_other h2
    have hR2 : cpT l = noP := by unfold cpT; rw [if_neg (by rw [hR1]; simp)]
    rw [hR1, hR2]
    have HZ := Lib.hid (And.intro hZ (And.intro hZ1 hZs))
    have hn2 : ¬ ((splitc 47 l).length : Int) = 2 := by omega
    have HSP3 : Hid (∀ w', Calls Tryz.prog 68 #[.string (bs l), .int .u8 47] w' fun e w'' => ∃ a cap, e = .returned (.slice a (splitc 47 l).length cap) ∧ Fr No w' w'') := fun w' => (HSP.out w').mono (by rintro e w'' ⟨a, cap, h, -, hf⟩; exact ⟨a, cap, h, hf⟩)
    generalize (splitc 47 l).length = n at hn2 HSP3
    generalize bs l = s at HSP3 ⊢
    clear hZ hZ1 hY hl h2 hR1 hR2 HSP
    go_enter Tryz.func32, Tryz.ntmps32
    have t3 := Tryz.underlying3
    have u3 := Tryz.runUnderlying3
    have g3 := Tryz.isAgg3
    have z3 := Tryz.sizeOf3
    have t4 := Tryz.underlying4
    have u4 := Tryz.runUnderlying4
    have g4 := Tryz.isAgg4
    have z4 := Tryz.sizeOf4
    have t5 := Tryz.underlying5
    have u5 := Tryz.runUnderlying5
    have g5 := Tryz.isAgg5
    have z5 := Tryz.sizeOf5
    have t9 := Tryz.underlying9
    have u9 := Tryz.runUnderlying9
    have g9 := Tryz.isAgg9
    have z9 := Tryz.sizeOf9
    have t30 := Tryz.underlying30
    have u30 := Tryz.runUnderlying30
    have g30 := Tryz.isAgg30
    have z30 := Tryz.sizeOf30
    have t40 := Tryz.underlying40
    have u40 := Tryz.runUnderlying40
    have g40 := Tryz.isAgg40
    have z40 := Tryz.sizeOf40
    have t75 := Tryz.underlying75
    have u75 := Tryz.runUnderlying75
    have g75 := Tryz.isAgg75
    have z75 := Tryz.sizeOf75
    have c68 := Tryz.call68
    have c69 := Tryz.call69
    have c70 := Tryz.call70
    have c20 := Tryz.call20
    have mixed : Tryz.prog.follows .mixedOrders = true := by kernel_rfl
    obtain ⟨k30, hk30⟩ : ∃ k, k = 17 := ⟨_, rfl⟩
    rw [← hk30] at z30
    have nk30 : ¬ k30 = 0 := by omega
    have HK30 := Lib.hid hk30
    obtain ⟨k40, hk40⟩ : ∃ k, k = 18 := ⟨_, rfl⟩
    rw [← hk40] at z40
    have nk40 : ¬ k40 = 0 := by omega
    have HK40 := Lib.hid hk40
    have hP : Tryz.prog = PD := rfl
    rw [hP] at t3 u3 g3 z3 t4 u4 g4 z4 t5 u5 g5 z5 t9 u9 g9 z9 t30 u30 g30 z30 t40 u40 g40 z40 t75 u75 g75 z75 c68 c69 c70 c20 mixed v30 v40 ⊢
    have HP := Lib.hid hP.symm
    clear hP hk30 hk40
    have hZk : Z.size = k40 := by rw [HK40.out]; exact hZs
    clear hYs hZs
    have hb0 := heap_alloc_new w (.cells Z 40)
    have F0 : Fr No w (w.alloc (.cells Z 40)) := Fr.alloc _ _ _
    obtain ⟨w0, hw0⟩ : ∃ w0, w.alloc (.cells Z 40) = w0 := ⟨_, rfl⟩
    rw [hw0] at hb0 F0
    go_wp2_with (first | (go_at_call 68; refine (at_prog HP.out (HSP3.out _)).mono ?_; rintro e w1 ⟨a, cap, rfl, hf1⟩; obtain ⟨y3, hst3, hyb3, hyf3⟩ := store_all (P := PD) Z.toList (hf1.keep hb0) (by rw [Array.length_toList]) HZ.out.2.1) | fail)
    refine bodyPost_ret_by (results_agg_tmp rfl _ (b := w.heap.size) (k := 18) (cs := Z) (Tryz.isAgg40 _) (Tryz.sizeOf40 _) rfl (load_block hyb3 HZ.out.2.2 (fun j v hv => by simpa using hv))) rfl ?_
    exact ⟨by rw [← HZ.out.1]; rfl, (F0.trans hf1).ofNew hyf3 fun k hk => .inr (by rw [hk]; exact Nat.le_refl _)⟩
end Go.Proofs.YtmhnailcmlomiaaGreatDoor
