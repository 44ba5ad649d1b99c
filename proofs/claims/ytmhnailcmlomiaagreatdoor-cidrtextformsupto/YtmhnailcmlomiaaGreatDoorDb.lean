/-
  CONTRACT of package cidr's Parse, over this seat's translation: what the call returns.
  Conditions: the string is shorter than 2 to the 31; the package variables are as Gl says.
-/
import Derived.Test.YtmhnailcmlomiaaGreatDoorDa
import Derived.Test.YtmhnailcmlomiaaGreatDoorP7
namespace Go.Proofs.YtmhnailcmlomiaaGreatDoor
open Go.ChangeShapes Go.WideShapes Go.ChangeAt Go.RowKit
set_option linter.unusedVariables false

/-- The parts of the notation of a prefix. -/
def cpX (l : List UInt8) : List UInt8 := (cutR l (cutc 47 l)).1
def cpY (l : List UInt8) : List UInt8 := (cutR l (cutc 47 l)).2.1
def cpN (l : List UInt8) : Int := (bitsV (cpY l)).getD 0
/-- Whether a string is the notation of a prefix, and that prefix as cells. -/
def cpB (l : List UInt8) : Bool := (parseS (cpX l)).isSome && (bitsV (cpY l)).isSome && validP (resB (parseS (cpX l))) (resX (parseS (cpX l))) (cpN l)
def cpT (l : List UInt8) : List Value := if cpB l then pfx (resB (parseS (cpX l))) (resX (parseS (cpX l))) (cpN l) else noP

theorem cutR_len (l : List UInt8) (c : UInt8) : (cutR l (cutc c l)).1.length ≤ l.length ∧ (cutR l (cutc c l)).2.1.length ≤ l.length := by
  induction l with
  | nil => exact ⟨Nat.le_refl _, Nat.le_refl _⟩
  | cons x r ih =>
    unfold cutc
    by_cases h : x = c
    · rw [if_pos h]; exact ⟨Nat.zero_le _, by show r.length ≤ (x :: r).length; simp⟩
    · rw [if_neg h]
      cases hc : cutc c r with
      | none => exact ⟨Nat.le_refl _, Nat.zero_le _⟩
      | some p =>
        rw [hc] at ih
        obtain ⟨p1, p2⟩ := p
        have h1 : p1.length ≤ r.length := ih.1
        have h2 : p2.length ≤ r.length := ih.2
        exact ⟨by show (x :: p1).length ≤ (x :: r).length; simp; exact h1, by show p2.length ≤ (x :: r).length; simp; omega⟩

set_option maxHeartbeats 8000000 in
set_option maxRecDepth 100000 in
theorem cparse_any (l : List UInt8) (w : World) (hG : Gl w) (hl : l.length < 2147483648) :
    Calls Tryz.prog 31 #[.string (bs l)] w fun e w' => e = .returned (.tuple #[.agg (cpT l).toArray, .bool (cpB l)]) ∧ Fr No w w' := by
  obtain ⟨Z, hZ⟩ : ∃ Z : Array Value, noP.toArray = Z := ⟨_, rfl⟩
  obtain ⟨Y, hY⟩ : ∃ Y : Array Value, (adr false zeros).toArray = Y := ⟨_, rfl⟩
  have v40 := zero40
  have v30 := zero30
  rw [hZ] at v40
  rw [hY] at v30
  have hZs : Z.size = 18 := by rw [← hZ]; rfl
  have hYs : Y.size = 17 := by rw [← hY]; rfl
  have hZ1 : ∀ u ∈ Z.toList, u.oneCell' = true := by rw [← hZ]; exact pfx_one _ _ _
  have hlen := cutR_len l 47
  have HCT : Hid (∀ w', Gl w' → Calls Tryz.prog 65 #[.string (bs l), .string ⟨#[47]⟩] w' fun e w'' => e = .returned (.tuple #[.string (bs (cpX l)), .string (bs (cpY l)), .bool (cutR l (cutc 47 l)).2.2]) ∧ Fr No w' w'') := fun w' h => cut1_any l 47 w' h.g hl
  have HPA : Hid (∀ w', Gl w' → Calls Tryz.prog 66 #[.string (bs (cpX l))] w' fun e w'' => e = .returned (.tuple #[.agg (adr (resB (parseS (cpX l))) (resX (parseS (cpX l)))).toArray, .bool (parseS (cpX l)).isSome]) ∧ Fr No w' w'') := fun w' h => parse_any (cpX l) w' h.g (Nat.lt_of_le_of_lt hlen.1 hl)
  have HPB : Hid (∀ w', Gl w' → Calls Tryz.prog 67 #[.string (bs (cpY l))] w' fun e w'' => e = .returned (.tuple #[.int .i64 (cpN l), .bool (bitsV (cpY l)).isSome]) ∧ Fr No w' w'') := fun w' h => pbits_any (cpY l) w' h (Nat.lt_of_le_of_lt hlen.2 hl)
  have hbx := resX_bytes (cpX l)
  have HVP : Hid (∀ w', Calls Tryz.prog 19 #[.agg (pfx (resB (parseS (cpX l))) (resX (parseS (cpX l))) (cpN l)).toArray] w' fun e w'' => e = .returned (.bool (validP (resB (parseS (cpX l))) (resX (parseS (cpX l))) (cpN l))) ∧ Fr No w' w'') := fun w' => validp_any _ _ _ hbx w'
  have HR : Hid (cpB l = ((parseS (cpX l)).isSome && (bitsV (cpY l)).isSome && validP (resB (parseS (cpX l))) (resX (parseS (cpX l))) (cpN l)) ∧ cpT l = if cpB l then pfx (resB (parseS (cpX l))) (resX (parseS (cpX l))) (cpN l) else noP) := ⟨rfl, rfl⟩
  rw [HR.out.2, HR.out.1]
  have hfold := put_pfx (resB (parseS (cpX l))) (resX (parseS (cpX l))) (cpN l) hbx.1
  have hT18 : (pfx (resB (parseS (cpX l))) (resX (parseS (cpX l))) (cpN l)).toArray.size = 18 := by rw [List.size_toArray]; exact pfx_length hbx.1
  have hT1 : ∀ u ∈ (pfx (resB (parseS (cpX l))) (resX (parseS (cpX l))) (cpN l)).toArray.toList, u.oneCell' = true := by intro u hu; exact pfx_one _ _ _ u (by simpa using hu)
  have hA17 : (adr (resB (parseS (cpX l))) (resX (parseS (cpX l)))).toArray.size = 17 := by rw [List.size_toArray, adr_length, hbx.1]
  have hA1 : ∀ u ∈ (adr (resB (parseS (cpX l))) (resX (parseS (cpX l)))).toArray.toList, u.oneCell' = true := by intro u hu; exact adr_one _ _ u (by simpa using hu)
  rw [hZ] at hfold
  clear hbx hlen HR
  generalize hvv : validP (resB (parseS (cpX l))) (resX (parseS (cpX l))) (cpN l) = vv at HVP ⊢
  generalize hTT : pfx (resB (parseS (cpX l))) (resX (parseS (cpX l))) (cpN l) = TL at HVP hfold hT18 hT1 ⊢
  obtain ⟨T, hT⟩ : ∃ T : Array Value, TL.toArray = T := ⟨_, rfl⟩
  rw [hT] at HVP hfold hT18 hT1
  generalize hAA : (adr (resB (parseS (cpX l))) (resX (parseS (cpX l)))).toArray = A at HPA hfold hA17 hA1
  generalize hNN : cpN l = n at HPB hfold
  generalize (parseS (cpX l)).isSome = ok1 at HPA ⊢
  generalize (bitsV (cpY l)).isSome = ok2 at HPB ⊢
  generalize bs (cpX l) = sx at HCT HPA
  generalize bs (cpY l) = sy at HCT HPB
  generalize (cutR l (cutc 47 l)).2.2 = fnd at HCT
  generalize bs l = s at HCT ⊢
  obtain ⟨M, hM⟩ : ∃ M, Array.foldl (fun (cs : Array Value) (x : Value × Nat) => cs.setIfInBounds x.snd x.fst) Z A.zipIdx 0 17 = M := ⟨_, rfl⟩
  rw [hM] at hfold
  have hMs : M.size = 18 := by have h := hT18; rw [← hfold, Array.size_setIfInBounds] at h; exact h
  have HZ := Lib.hid (And.intro hZ (And.intro hZ1 (And.intro hT (And.intro hT1 (And.intro hA1 (And.intro hG (And.intro hT18 hZs)))))))
  clear hvv hTT hAA hNN hl hZ hY hZ1 hT hT1 hA1 hG
  cases ok1
  · go_enter Tryz.func31, Tryz.ntmps31
    have t3 := Tryz.underlying3
    have u3 := Tryz.runUnderlying3
    have g3 := Tryz.isAgg3
    have z3 := Tryz.sizeOf3
    have t4 := Tryz.underlying4
    have u4 := Tryz.runUnderlying4
    have g4 := Tryz.isAgg4
    have z4 := Tryz.sizeOf4
    have t9 := Tryz.underlying9
    have u9 := Tryz.runUnderlying9
    have g9 := Tryz.isAgg9
    have z9 := Tryz.sizeOf9
    have t30 := Tryz.underlying30
    have u30 := Tryz.runUnderlying30
    have g30 := Tryz.isAgg30
    have z30 := Tryz.sizeOf30
    have t40 := Tryz.underlying40
    have u40 := Tryz.runUnderlying40
    have g40 := Tryz.isAgg40
    have z40 := Tryz.sizeOf40
    have c65 := Tryz.call65
    have c66 := Tryz.call66
    have c67 := Tryz.call67
    have c19 := Tryz.call19
    have mixed : Tryz.prog.follows .mixedOrders = true := by kernel_rfl
    obtain ⟨k30, hk30⟩ : ∃ k, k = 17 := ⟨_, rfl⟩
    rw [← hk30] at z30
    have nk30 : ¬ k30 = 0 := by omega
    have HK30 := Lib.hid hk30
    obtain ⟨k40, hk40⟩ : ∃ k, k = 18 := ⟨_, rfl⟩
    rw [← hk40] at z40
    have nk40 : ¬ k40 = 0 := by omega
    have HK40 := Lib.hid hk40
    have hP : Tryz.prog = PD := rfl
    rw [hP] at t3 u3 g3 z3 t4 u4 g4 z4 t9 u9 g9 z9 t30 u30 g30 z30 t40 u40 g40 z40 c65 c66 c67 c19 mixed v30 v40 ⊢
    have HP := Lib.hid hP.symm
    clear hP hk30 hk40
    have hAk : A.size = k30 := by rw [HK30.out]; exact hA17
    have hYk : Y.size = k30 := by rw [HK30.out]; exact hYs
    have hZk : Z.size = k40 := by rw [HK40.out]; exact hZs
    have hTk : T.size = k40 := by rw [HK40.out]; exact hT18
    have hMk : M.size = k40 := by rw [HK40.out]; exact hMs
    rw [← HK30.out] at hM
    have i3 : k30 ≤ k40 := by have := HK30.out; have := HK40.out; omega
    have i4 : 17 < k40 := by have := HK40.out; omega
    have HA17 := Lib.hid hA17
    clear hA17 hYs hZs hT18 hMs
    have hb0 := heap_alloc_new w (.cells Z 40)
    have F0 : Fr No w (w.alloc (.cells Z 40)) := Fr.alloc _ _ _
    obtain ⟨w0, hw0⟩ : ∃ w0, w.alloc (.cells Z 40) = w0 := ⟨_, rfl⟩
    rw [hw0] at hb0 F0
    go_wp2_with (first | (go_at_call 65; refine (at_prog HP.out (HCT.out _ (HZ.out.2.2.2.2.2.1.fr F0))).mono ?_; rintro e w1 ⟨rfl, hf1⟩) | (go_at_call 66; refine (at_prog HP.out (HPA.out _ (HZ.out.2.2.2.2.2.1.fr (F0.trans hf1)))).mono ?_; rintro e w2 ⟨rfl, hf2⟩; obtain ⟨y1, hst1, hyb1, hyf1⟩ := store_all (P := PD) A.toList (heap_alloc_new w2 (.cells Y 30)) (by rw [Array.length_toList, hAk, hYk]) HZ.out.2.2.2.2.1; have F1 : Fr No w0 y1 := ((hf1.trans hf2).trans (Fr.alloc No w2 (.cells Y 30))).ofNew hyf1 (fun k hk => .inr (by rw [hk]; exact (hf1.trans hf2).size))) | (go_at_call 67; refine (at_prog HP.out (HPB.out _ (HZ.out.2.2.2.2.2.1.fr (F0.trans F1)))).mono ?_; rintro e w3 ⟨rfl, hf3⟩; have la : Sem.run PD (loadCellsFrom ⟨w2.heap.size, 0, none⟩ 0 k30 #[]) w3 = .ok A w3 := load_block (hf3.keep hyb1) hAk (fun j v hv => by simpa using hv); obtain ⟨y2, hst2, hyb2, hyf2⟩ := store_all (P := PD) T.toList (heap_alloc_new w3 (.cells Z 40)) (by rw [Array.length_toList, hTk, hZk]) HZ.out.2.2.2.1; have F2 : Fr No w0 y2 := ((F1.trans hf3).trans (Fr.alloc No w3 (.cells Z 40))).ofNew hyf2 (fun k hk => .inr (by rw [hk]; exact (F1.trans hf3).size)); have lt : Sem.run PD (loadCellsFrom ⟨w3.heap.size, 0, none⟩ 0 k40 #[]) y2 = .ok T y2 := load_block hyb2 hTk (fun j v hv => by simpa using hv); obtain ⟨y3, hst3, hyb3, hyf3⟩ := store_all (P := PD) Z.toList (F2.keep hb0) (by rw [Array.length_toList]) HZ.out.2.1) | fail)
    refine bodyPost_ret_by (results_agg_tmp rfl _ (b := w.heap.size) (k := 18) (cs := Z) (Tryz.isAgg40 _) (Tryz.sizeOf40 _) rfl (load_block hyb3 HZ.out.2.2.2.2.2.2.2 (fun j v hv => by simpa using hv))) rfl ?_
    exact ⟨by rw [← HZ.out.1]; rfl, (F0.trans F2).ofNew hyf3 fun k hk => .inr (by rw [hk]; exact Nat.le_refl _)⟩
  · cases ok2
    · go_enter Tryz.func31, Tryz.ntmps31
      have t3 := Tryz.underlying3
      have u3 := Tryz.runUnderlying3
      have g3 := Tryz.isAgg3
      have z3 := Tryz.sizeOf3
      have t4 := Tryz.underlying4
      have u4 := Tryz.runUnderlying4
      have g4 := Tryz.isAgg4
      have z4 := Tryz.sizeOf4
      have t9 := Tryz.underlying9
      have u9 := Tryz.runUnderlying9
      have g9 := Tryz.isAgg9
      have z9 := Tryz.sizeOf9
      have t30 := Tryz.underlying30
      have u30 := Tryz.runUnderlying30
      have g30 := Tryz.isAgg30
      have z30 := Tryz.sizeOf30
      have t40 := Tryz.underlying40
      have u40 := Tryz.runUnderlying40
      have g40 := Tryz.isAgg40
      have z40 := Tryz.sizeOf40
      have c65 := Tryz.call65
      have c66 := Tryz.call66
      have c67 := Tryz.call67
      have c19 := Tryz.call19
      have mixed : Tryz.prog.follows .mixedOrders = true := by kernel_rfl
      obtain ⟨k30, hk30⟩ : ∃ k, k = 17 := ⟨_, rfl⟩
      rw [← hk30] at z30
      have nk30 : ¬ k30 = 0 := by omega
      have HK30 := Lib.hid hk30
      obtain ⟨k40, hk40⟩ : ∃ k, k = 18 := ⟨_, rfl⟩
      rw [← hk40] at z40
      have nk40 : ¬ k40 = 0 := by omega
      have HK40 := Lib.hid hk40
      have hP : Tryz.prog = PD := rfl
      rw [hP] at t3 u3 g3 z3 t4 u4 g4 z4 t9 u9 g9 z9 t30 u30 g30 z30 t40 u40 g40 z40 c65 c66 c67 c19 mixed v30 v40 ⊢
      have HP := Lib.hid hP.symm
      clear hP hk30 hk40
      have hAk : A.size = k30 := by rw [HK30.out]; exact hA17
      have hYk : Y.size = k30 := by rw [HK30.out]; exact hYs
      have hZk : Z.size = k40 := by rw [HK40.out]; exact hZs
      have hTk : T.size = k40 := by rw [HK40.out]; exact hT18
      have hMk : M.size = k40 := by rw [HK40.out]; exact hMs
      rw [← HK30.out] at hM
      have i3 : k30 ≤ k40 := by have := HK30.out; have := HK40.out; omega
      have i4 : 17 < k40 := by have := HK40.out; omega
      have HA17 := Lib.hid hA17
      clear hA17 hYs hZs hT18 hMs
      have hb0 := heap_alloc_new w (.cells Z 40)
      have F0 : Fr No w (w.alloc (.cells Z 40)) := Fr.alloc _ _ _
      obtain ⟨w0, hw0⟩ : ∃ w0, w.alloc (.cells Z 40) = w0 := ⟨_, rfl⟩
      rw [hw0] at hb0 F0
      go_wp2_with (first | (go_at_call 65; refine (at_prog HP.out (HCT.out _ (HZ.out.2.2.2.2.2.1.fr F0))).mono ?_; rintro e w1 ⟨rfl, hf1⟩) | (go_at_call 66; refine (at_prog HP.out (HPA.out _ (HZ.out.2.2.2.2.2.1.fr (F0.trans hf1)))).mono ?_; rintro e w2 ⟨rfl, hf2⟩; obtain ⟨y1, hst1, hyb1, hyf1⟩ := store_all (P := PD) A.toList (heap_alloc_new w2 (.cells Y 30)) (by rw [Array.length_toList, hAk, hYk]) HZ.out.2.2.2.2.1; have F1 : Fr No w0 y1 := ((hf1.trans hf2).trans (Fr.alloc No w2 (.cells Y 30))).ofNew hyf1 (fun k hk => .inr (by rw [hk]; exact (hf1.trans hf2).size))) | (go_at_call 67; refine (at_prog HP.out (HPB.out _ (HZ.out.2.2.2.2.2.1.fr (F0.trans F1)))).mono ?_; rintro e w3 ⟨rfl, hf3⟩; have la : Sem.run PD (loadCellsFrom ⟨w2.heap.size, 0, none⟩ 0 k30 #[]) w3 = .ok A w3 := load_block (hf3.keep hyb1) hAk (fun j v hv => by simpa using hv); obtain ⟨y2, hst2, hyb2, hyf2⟩ := store_all (P := PD) T.toList (heap_alloc_new w3 (.cells Z 40)) (by rw [Array.length_toList, hTk, hZk]) HZ.out.2.2.2.1; have F2 : Fr No w0 y2 := ((F1.trans hf3).trans (Fr.alloc No w3 (.cells Z 40))).ofNew hyf2 (fun k hk => .inr (by rw [hk]; exact (F1.trans hf3).size)); have lt : Sem.run PD (loadCellsFrom ⟨w3.heap.size, 0, none⟩ 0 k40 #[]) y2 = .ok T y2 := load_block hyb2 hTk (fun j v hv => by simpa using hv); obtain ⟨y3, hst3, hyb3, hyf3⟩ := store_all (P := PD) Z.toList (F2.keep hb0) (by rw [Array.length_toList]) HZ.out.2.1) | fail)
      refine bodyPost_ret_by (results_agg_tmp rfl _ (b := w.heap.size) (k := 18) (cs := Z) (Tryz.isAgg40 _) (Tryz.sizeOf40 _) rfl (load_block hyb3 HZ.out.2.2.2.2.2.2.2 (fun j v hv => by simpa using hv))) rfl ?_
      exact ⟨by rw [← HZ.out.1]; rfl, (F0.trans F2).ofNew hyf3 fun k hk => .inr (by rw [hk]; exact Nat.le_refl _)⟩
    · cases vv
      · go_enter Tryz.func31, Tryz.ntmps31
        have t3 := Tryz.underlying3
        have u3 := Tryz.runUnderlying3
        have g3 := Tryz.isAgg3
        have z3 := Tryz.sizeOf3
        have t4 := Tryz.underlying4
        have u4 := Tryz.runUnderlying4
        have g4 := Tryz.isAgg4
        have z4 := Tryz.sizeOf4
        have t9 := Tryz.underlying9
        have u9 := Tryz.runUnderlying9
        have g9 := Tryz.isAgg9
        have z9 := Tryz.sizeOf9
        have t30 := Tryz.underlying30
        have u30 := Tryz.runUnderlying30
        have g30 := Tryz.isAgg30
        have z30 := Tryz.sizeOf30
        have t40 := Tryz.underlying40
        have u40 := Tryz.runUnderlying40
        have g40 := Tryz.isAgg40
        have z40 := Tryz.sizeOf40
        have c65 := Tryz.call65
        have c66 := Tryz.call66
        have c67 := Tryz.call67
        have c19 := Tryz.call19
        have mixed : Tryz.prog.follows .mixedOrders = true := by kernel_rfl
        obtain ⟨k30, hk30⟩ : ∃ k, k = 17 := ⟨_, rfl⟩
        rw [← hk30] at z30
        have nk30 : ¬ k30 = 0 := by omega
        have HK30 := Lib.hid hk30
        obtain ⟨k40, hk40⟩ : ∃ k, k = 18 := ⟨_, rfl⟩
        rw [← hk40] at z40
        have nk40 : ¬ k40 = 0 := by omega
        have HK40 := Lib.hid hk40
        have hP : Tryz.prog = PD := rfl
        rw [hP] at t3 u3 g3 z3 t4 u4 g4 z4 t9 u9 g9 z9 t30 u30 g30 z30 t40 u40 g40 z40 c65 c66 c67 c19 mixed v30 v40 ⊢
        have HP := Lib.hid hP.symm
        clear hP hk30 hk40
        have hAk : A.size = k30 := by rw [HK30.out]; exact hA17
        have hYk : Y.size = k30 := by rw [HK30.out]; exact hYs
        have hZk : Z.size = k40 := by rw [HK40.out]; exact hZs
        have hTk : T.size = k40 := by rw [HK40.out]; exact hT18
        have hMk : M.size = k40 := by rw [HK40.out]; exact hMs
        rw [← HK30.out] at hM
        have i3 : k30 ≤ k40 := by have := HK30.out; have := HK40.out; omega
        have i4 : 17 < k40 := by have := HK40.out; omega
        have HA17 := Lib.hid hA17
        clear hA17 hYs hZs hT18 hMs
        have hb0 := heap_alloc_new w (.cells Z 40)
        have F0 : Fr No w (w.alloc (.cells Z 40)) := Fr.alloc _ _ _
        obtain ⟨w0, hw0⟩ : ∃ w0, w.alloc (.cells Z 40) = w0 := ⟨_, rfl⟩
        rw [hw0] at hb0 F0
        go_wp2_with (first | (go_at_call 65; refine (at_prog HP.out (HCT.out _ (HZ.out.2.2.2.2.2.1.fr F0))).mono ?_; rintro e w1 ⟨rfl, hf1⟩) | (go_at_call 66; refine (at_prog HP.out (HPA.out _ (HZ.out.2.2.2.2.2.1.fr (F0.trans hf1)))).mono ?_; rintro e w2 ⟨rfl, hf2⟩; obtain ⟨y1, hst1, hyb1, hyf1⟩ := store_all (P := PD) A.toList (heap_alloc_new w2 (.cells Y 30)) (by rw [Array.length_toList, hAk, hYk]) HZ.out.2.2.2.2.1; have F1 : Fr No w0 y1 := ((hf1.trans hf2).trans (Fr.alloc No w2 (.cells Y 30))).ofNew hyf1 (fun k hk => .inr (by rw [hk]; exact (hf1.trans hf2).size))) | (go_at_call 67; refine (at_prog HP.out (HPB.out _ (HZ.out.2.2.2.2.2.1.fr (F0.trans F1)))).mono ?_; rintro e w3 ⟨rfl, hf3⟩; have la : Sem.run PD (loadCellsFrom ⟨w2.heap.size, 0, none⟩ 0 k30 #[]) w3 = .ok A w3 := load_block (hf3.keep hyb1) hAk (fun j v hv => by simpa using hv); obtain ⟨y2, hst2, hyb2, hyf2⟩ := store_all (P := PD) T.toList (heap_alloc_new w3 (.cells Z 40)) (by rw [Array.length_toList, hTk, hZk]) HZ.out.2.2.2.1; have F2 : Fr No w0 y2 := ((F1.trans hf3).trans (Fr.alloc No w3 (.cells Z 40))).ofNew hyf2 (fun k hk => .inr (by rw [hk]; exact (F1.trans hf3).size)); have lt : Sem.run PD (loadCellsFrom ⟨w3.heap.size, 0, none⟩ 0 k40 #[]) y2 = .ok T y2 := load_block hyb2 hTk (fun j v hv => by simpa using hv)) | (go_at_call 19; refine (at_prog HP.out (HVP.out _)).mono ?_; rintro e w4 ⟨rfl, hf4⟩; obtain ⟨y3, hst3, hyb3, hyf3⟩ := store_all (P := PD) Z.toList ((F2.trans hf4).keep hb0) (by rw [Array.length_toList]) HZ.out.2.1) | fail)
        refine bodyPost_ret_by (results_agg_tmp rfl _ (b := w.heap.size) (k := 18) (cs := Z) (Tryz.isAgg40 _) (Tryz.sizeOf40 _) rfl (load_block hyb3 HZ.out.2.2.2.2.2.2.2 (fun j v hv => by simpa using hv))) rfl ?_
        exact ⟨by rw [← HZ.out.1]; rfl, (F0.trans (F2.trans hf4)).ofNew hyf3 fun k hk => .inr (by rw [hk]; exact Nat.le_refl _)⟩
      · go_enter Tryz.func31, Tryz.ntmps31
        have t3 := Tryz.underlying3
        have u3 := Tryz.runUnderlying3
        have g3 := Tryz.isAgg3
        have z3 := Tryz.sizeOf3
        have t4 := Tryz.underlying4
        have u4 := Tryz.runUnderlying4
        have g4 := Tryz.isAgg4
        have z4 := Tryz.sizeOf4
        have t9 := Tryz.underlying9
        have u9 := Tryz.runUnderlying9
        have g9 := Tryz.isAgg9
        have z9 := Tryz.sizeOf9
        have t30 := Tryz.underlying30
        have u30 := Tryz.runUnderlying30
        have g30 := Tryz.isAgg30
        have z30 := Tryz.sizeOf30
        have t40 := Tryz.underlying40
        have u40 := Tryz.runUnderlying40
        have g40 := Tryz.isAgg40
        have z40 := Tryz.sizeOf40
        have c65 := Tryz.call65
        have c66 := Tryz.call66
        have c67 := Tryz.call67
        have c19 := Tryz.call19
        have mixed : Tryz.prog.follows .mixedOrders = true := by kernel_rfl
        obtain ⟨k30, hk30⟩ : ∃ k, k = 17 := ⟨_, rfl⟩
        rw [← hk30] at z30
        have nk30 : ¬ k30 = 0 := by omega
        have HK30 := Lib.hid hk30
        obtain ⟨k40, hk40⟩ : ∃ k, k = 18 := ⟨_, rfl⟩
        rw [← hk40] at z40
        have nk40 : ¬ k40 = 0 := by omega
        have HK40 := Lib.hid hk40
        have hP : Tryz.prog = PD := rfl
        rw [hP] at t3 u3 g3 z3 t4 u4 g4 z4 t9 u9 g9 z9 t30 u30 g30 z30 t40 u40 g40 z40 c65 c66 c67 c19 mixed v30 v40 ⊢
        have HP := Lib.hid hP.symm
        clear hP hk30 hk40
        have hAk : A.size = k30 := by rw [HK30.out]; exact hA17
        have hYk : Y.size = k30 := by rw [HK30.out]; exact hYs
        have hZk : Z.size = k40 := by rw [HK40.out]; exact hZs
        have hTk : T.size = k40 := by rw [HK40.out]; exact hT18
        have hMk : M.size = k40 := by rw [HK40.out]; exact hMs
        rw [← HK30.out] at hM
        have i3 : k30 ≤ k40 := by have := HK30.out; have := HK40.out; omega
        have i4 : 17 < k40 := by have := HK40.out; omega
        have HA17 := Lib.hid hA17
        clear hA17 hYs hZs hT18 hMs
        have hb0 := heap_alloc_new w (.cells Z 40)
        have F0 : Fr No w (w.alloc (.cells Z 40)) := Fr.alloc _ _ _
        obtain ⟨w0, hw0⟩ : ∃ w0, w.alloc (.cells Z 40) = w0 := ⟨_, rfl⟩
        rw [hw0] at hb0 F0
        go_wp2_with (first | (go_at_call 65; refine (at_prog HP.out (HCT.out _ (HZ.out.2.2.2.2.2.1.fr F0))).mono ?_; rintro e w1 ⟨rfl, hf1⟩) | (go_at_call 66; refine (at_prog HP.out (HPA.out _ (HZ.out.2.2.2.2.2.1.fr (F0.trans hf1)))).mono ?_; rintro e w2 ⟨rfl, hf2⟩; obtain ⟨y1, hst1, hyb1, hyf1⟩ := store_all (P := PD) A.toList (heap_alloc_new w2 (.cells Y 30)) (by rw [Array.length_toList, hAk, hYk]) HZ.out.2.2.2.2.1; have F1 : Fr No w0 y1 := ((hf1.trans hf2).trans (Fr.alloc No w2 (.cells Y 30))).ofNew hyf1 (fun k hk => .inr (by rw [hk]; exact (hf1.trans hf2).size))) | (go_at_call 67; refine (at_prog HP.out (HPB.out _ (HZ.out.2.2.2.2.2.1.fr (F0.trans F1)))).mono ?_; rintro e w3 ⟨rfl, hf3⟩; have la : Sem.run PD (loadCellsFrom ⟨w2.heap.size, 0, none⟩ 0 k30 #[]) w3 = .ok A w3 := load_block (hf3.keep hyb1) hAk (fun j v hv => by simpa using hv); obtain ⟨y2, hst2, hyb2, hyf2⟩ := store_all (P := PD) T.toList (heap_alloc_new w3 (.cells Z 40)) (by rw [Array.length_toList, hTk, hZk]) HZ.out.2.2.2.1; have F2 : Fr No w0 y2 := ((F1.trans hf3).trans (Fr.alloc No w3 (.cells Z 40))).ofNew hyf2 (fun k hk => .inr (by rw [hk]; exact (F1.trans hf3).size)); have lt : Sem.run PD (loadCellsFrom ⟨w3.heap.size, 0, none⟩ 0 k40 #[]) y2 = .ok T y2 := load_block hyb2 hTk (fun j v hv => by simpa using hv)) | (go_at_call 19; refine (at_prog HP.out (HVP.out _)).mono ?_; rintro e w4 ⟨rfl, hf4⟩; have lt4 : Sem.run PD (loadCellsFrom ⟨w3.heap.size, 0, none⟩ 0 k40 #[]) w4 = .ok T w4 := load_block (hf4.keep hyb2) hTk (fun j v hv => by simpa using hv); obtain ⟨y3, hst3, hyb3, hyf3⟩ := store_all (P := PD) T.toList ((F2.trans hf4).keep hb0) (by rw [Array.length_toList, hTk, hZk]) HZ.out.2.2.2.1) | fail)
        refine bodyPost_ret_by (results_agg_tmp rfl _ (b := w.heap.size) (k := 18) (cs := T) (Tryz.isAgg40 _) (Tryz.sizeOf40 _) rfl (load_block hyb3 HZ.out.2.2.2.2.2.2.1 (fun j v hv => by simpa using hv))) rfl ?_
        exact ⟨by rw [← HZ.out.2.2.1]; rfl, (F0.trans (F2.trans hf4)).ofNew hyf3 fun k hk => .inr (by rw [hk]; exact Nat.le_refl _)⟩
end Go.Proofs.YtmhnailcmlomiaaGreatDoor
