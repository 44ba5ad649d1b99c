/-
  CONTRACTS of package cidr's PrefixOf, over this seat's translation: what the call returns.
  Conditions: the argument is an address.
-/
import Derived.Test.YtmhnailcmlomiaaGreatDoorCb
namespace Go.Proofs.YtmhnailcmlomiaaGreatDoor
open Go.ChangeShapes Go.WideShapes Go.ChangeAt Go.RowKit
set_option linter.unusedVariables false

/-- No prefix. -/
def noP : List Value := pfx false zeros 0
/-- The prefix of an address, as cells. -/
def pofT (b : Bool) (xs : List Nat) (n : Int) : List Value := if pofB b xs n then pfx b (pofX b xs n) n else noP
theorem zero40 : ∀ w, (zeroValue 40).run Tryz.prog w = .ok (.agg noP.toArray) w := by
  intro w
  kernel_rfl
set_option maxRecDepth 10000 in
theorem putp16 (b : Bool) (a0 a1 a2 a3 a4 a5 a6 a7 a8 a9 a10 a11 a12 a13 a14 a15 : Nat) (n : Int) : (Array.foldl (fun (cs : Array Value) (x : Value × Nat) => cs.setIfInBounds x.snd x.fst) noP.toArray (adr b [a0, a1, a2, a3, a4, a5, a6, a7, a8, a9, a10, a11, a12, a13, a14, a15]).toArray.zipIdx 0 17).setIfInBounds 17 (.int .i64 n) = (pfx b [a0, a1, a2, a3, a4, a5, a6, a7, a8, a9, a10, a11, a12, a13, a14, a15] n).toArray := by
  kernel_rfl
theorem put_pfx (b : Bool) (xs : List Nat) (n : Int) (h : xs.length = 16) : (Array.foldl (fun (cs : Array Value) (x : Value × Nat) => cs.setIfInBounds x.snd x.fst) noP.toArray (adr b xs).toArray.zipIdx 0 17).setIfInBounds 17 (.int .i64 n) = (pfx b xs n).toArray := by
  match xs, h with
  | [a0, a1, a2, a3, a4, a5, a6, a7, a8, a9, a10, a11, a12, a13, a14, a15], _ => exact putp16 b a0 a1 a2 a3 a4 a5 a6 a7 a8 a9 a10 a11 a12 a13 a14 a15 n

set_option maxHeartbeats 4000000 in
set_option maxRecDepth 100000 in
theorem pof_any (b : Bool) (xs : List Nat) (n : Int) (hx : Bytes xs) (w : World) :
    Calls Tryz.prog 59 #[.agg (adr b xs).toArray, .int .i64 n] w fun e w' => e = .returned (.tuple #[.agg (pofT b xs n).toArray, .bool (pofB b xs n)]) ∧ Fr No w w' := by
  obtain ⟨Z, hZ⟩ : ∃ Z : Array Value, noP.toArray = Z := ⟨_, rfl⟩
  have v40 := zero40
  rw [hZ] at v40
  have hz18 : Z.size = 18 := by rw [← hZ]; rfl
  have hZ1 : ∀ u ∈ Z.toList, u.oneCell' = true := by rw [← hZ]; exact pfx_one _ _ _
  obtain ⟨A, hA, h0, hsz, -⟩ := adr_letter b xs hx
  have HVA : Hid (∀ w', Calls Tryz.prog 44 #[.agg A] w' fun e w'' => e = .returned (.bool (validA b xs)) ∧ Fr No w' w'') := fun w' => by rw [← hA]; exact valid_any b xs hx w'
  have HBL : Hid (∀ w', Calls Tryz.prog 84 #[.agg A] w' fun e w'' => e = .returned (.int .i64 (bitsOf b)) ∧ Fr No w' w'') := fun w' => bitLen_A b A h0 w'
  obtain ⟨b1, b2, hF⟩ := alloc2 w (.cells A 30) (.cells Z 40)
  have HB : Hid (((w.alloc (.cells A 30)).alloc (.cells Z 40)).heap[w.heap.size]? = some (.cells A 30 (0, 0)) ∧ ((w.alloc (.cells A 30)).alloc (.cells Z 40)).heap[w.heap.size + 1]? = some (.cells Z 40 (0, 0)) ∧ Fr No w ((w.alloc (.cells A 30)).alloc (.cells Z 40))) := ⟨b1, b2, hF⟩
  clear b1 b2 hF
  have HZ := Lib.hid (And.intro hZ (And.intro hZ1 hA))
  have hfold := put_pfx b (pofX b xs n) n (pofX_bytes hx n).1
  have hT1 : ∀ u ∈ (pfx b (pofX b xs n) n).toArray.toList, u.oneCell' = true := by intro u hu; exact pfx_one _ _ _ u (by simpa using hu)
  have hT18 : (pfx b (pofX b xs n) n).toArray.size = 18 := by rw [List.size_toArray]; exact pfx_length (pofX_bytes hx n).1
  rw [hZ] at hfold
  have HF : Hid (∀ k : Nat, (k : Int) = n → (k : Int) ≤ bitsOf b → ∀ w', Calls Tryz.prog 85 #[.agg A, .int .i64 n] w' fun e w'' => e = .returned (.agg (adr b (pofX b xs n)).toArray) ∧ Fr No w' w'') := fun k hk hkb w' => by
    rw [← hA, ← hk]
    exact first_any b xs k hx hkb w'
  have HT0 : Hid (pofT b xs n = (if pofB b xs n then pfx b (pofX b xs n) n else noP) ∧ pofB b xs n = (validA b xs && decide (0 ≤ n) && decide (n ≤ bitsOf b))) := ⟨rfl, rfl⟩
  obtain ⟨F, hFF⟩ : ∃ F : Array Value, (adr b (pofX b xs n)).toArray = F := ⟨_, rfl⟩
  have hF17 : F.size = 17 := by rw [← hFF, List.size_toArray, adr_length, (pofX_bytes hx n).1]
  obtain ⟨T, hTT⟩ : ∃ T : Array Value, (pfx b (pofX b xs n) n).toArray = T := ⟨_, rfl⟩
  rw [hFF] at hfold HF
  rw [hTT] at hfold hT1 hT18
  obtain ⟨M, hM⟩ : ∃ M, Array.foldl (fun (cs : Array Value) (x : Value × Nat) => cs.setIfInBounds x.snd x.fst) Z F.zipIdx 0 17 = M := ⟨_, rfl⟩
  rw [hM] at hfold
  have hMs : M.size = 18 := by have h := hT18; rw [← hfold, Array.size_setIfInBounds] at h; exact h
  have HT := Lib.hid (And.intro hTT (And.intro hT1 hT18))
  rw [hA]
  clear hZ hZ1 hA hx hFF hTT hT1
  generalize validA b xs = va at HVA HT0
  generalize bitsOf b = L at HBL HF HT0
  have hV : ((va = true ∧ 0 ≤ n ∧ n ≤ L) ∨ va = false ∨ (va = true ∧ n < 0) ∨ (va = true ∧ 0 ≤ n ∧ L < n)) := by
    cases va
    · exact .inr (.inl rfl)
    · by_cases h1 : n < 0
      · exact .inr (.inr (.inl ⟨rfl, h1⟩))
      · by_cases h2 : L < n
        · exact .inr (.inr (.inr ⟨rfl, by omega, h2⟩))
        · exact .inl ⟨rfl, by omega, by omega⟩
  rcases hV with ⟨rfl, h1, h2⟩ | hbad
  · have HV : Hid (pofT b xs n = pfx b (pofX b xs n) n ∧ pofB b xs n = true) := by
      have h : pofB b xs n = true := by rw [HT0.out.2, decide_eq_true h1, decide_eq_true h2]; rfl
      exact ⟨by rw [HT0.out.1, if_pos h], h⟩
    have p1 : ¬ n < 0 := by omega
    have p2 : ¬ L < n := by omega
    have HF2 := Lib.hid (HF.out n.toNat (by omega) (by omega))
    clear HF h1 h2
    go_enter Tryz.func59, Tryz.ntmps59
    have t3 := Tryz.underlying3
    have u3 := Tryz.runUnderlying3
    have g3 := Tryz.isAgg3
    have z3 := Tryz.sizeOf3
    have t4 := Tryz.underlying4
    have u4 := Tryz.runUnderlying4
    have g4 := Tryz.isAgg4
    have z4 := Tryz.sizeOf4
    have t5 := Tryz.underlying5
    have u5 := Tryz.runUnderlying5
    have g5 := Tryz.isAgg5
    have z5 := Tryz.sizeOf5
    have t28 := Tryz.underlying28
    have u28 := Tryz.runUnderlying28
    have g28 := Tryz.isAgg28
    have z28 := Tryz.sizeOf28
    have t30 := Tryz.underlying30
    have u30 := Tryz.runUnderlying30
    have g30 := Tryz.isAgg30
    have z30 := Tryz.sizeOf30
    have t40 := Tryz.underlying40
    have u40 := Tryz.runUnderlying40
    have g40 := Tryz.isAgg40
    have z40 := Tryz.sizeOf40
    have c44 := Tryz.call44
    have c84 := Tryz.call84
    have c85 := Tryz.call85
    have mixed : Tryz.prog.follows .mixedOrders = true := by kernel_rfl
    obtain ⟨k30, hk30⟩ : ∃ k, k = 17 := ⟨_, rfl⟩
    rw [← hk30] at z30
    have nk30 : ¬ k30 = 0 := by omega
    have HK30 := Lib.hid hk30
    obtain ⟨k40, hk40⟩ : ∃ k, k = 18 := ⟨_, rfl⟩
    rw [← hk40] at z40
    have nk40 : ¬ k40 = 0 := by omega
    have HK40 := Lib.hid hk40
    have hP : Tryz.prog = PD := rfl
    rw [hP] at t3 u3 g3 z3 t4 u4 g4 z4 t5 u5 g5 z5 t28 u28 g28 z28 t30 u30 g30 z30 t40 u40 g40 z40 c44 c84 c85 mixed v40 ⊢
    have HP := Lib.hid hP.symm
    clear hP hk30 hk40
    have hAk : A.size = k30 := by rw [HK30.out]; exact hsz
    have hZk : Z.size = k40 := by rw [HK40.out]; exact hz18
    have hTk : T.size = k40 := by rw [HK40.out]; exact HT.out.2.2
    have hMk : M.size = k40 := by rw [HK40.out]; exact hMs
    have hFk : F.size = k30 := by rw [HK30.out]; exact hF17
    rw [← HK30.out] at hM
    have i3 : k30 ≤ k40 := by have := HK30.out; have := HK40.out; omega
    have i4 : 17 < k40 := by have := HK40.out; omega
    have HLD : Hid (∀ w', Fr No ((w.alloc (.cells A 30)).alloc (.cells Z 40)) w' → Sem.run PD (loadCellsFrom ⟨w.heap.size, 0, none⟩ 0 k30 #[]) w' = .ok A w' ∧ w'.heap[w.heap.size + 1]? = some (.cells Z 40 (0, 0))) := fun w' hf => ⟨load_block (hf.keep HB.out.1) hAk (fun j v hv => by simpa using hv), hf.keep HB.out.2.1⟩
    have hl0 := (HLD.out _ (Fr.refl _ _)).1
    clear hMs hT18 hz18 hsz hF17
    go_wp2_with (first | (go_at_call 44; refine (at_prog HP.out (HVA.out _)).mono ?_; rintro e w3 ⟨rfl, hf3⟩; have hl3 := (HLD.out w3 hf3).1) | (go_at_call 84; refine (at_prog HP.out (HBL.out _)).mono ?_; rintro e w4 ⟨rfl, hf4⟩; have hl4 := (HLD.out w4 (hf3.trans hf4)).1) | (go_at_call 85; refine (at_prog HP.out (HF2.out _)).mono ?_; rintro e w5 ⟨rfl, hf5⟩; obtain ⟨y, hst, hyb, hyf⟩ := store_all (P := PD) T.toList (HLD.out w5 ((hf3.trans hf4).trans hf5)).2 (by rw [Array.length_toList, hTk, hZk]) HT.out.2.1) | fail)
    refine bodyPost_ret_by (results_agg_tmp rfl _ (b := w.heap.size + 1) (k := 18) (cs := T) (Tryz.isAgg40 _) (Tryz.sizeOf40 _) rfl (load_block hyb HT.out.2.2 (fun j v hv => by simpa using hv))) rfl ?_
    exact ⟨by rw [HV.out.1, HV.out.2, HT.out.1]; rfl, (((HB.out.2.2.trans hf3).trans hf4).trans hf5).ofNew hyf fun k hk => .inr (by rw [hk]; omega)⟩
  · have HV : Hid (pofT b xs n = noP ∧ pofB b xs n = false) := by
      have h : pofB b xs n = false := by
        rw [HT0.out.2]
        rcases hbad with rfl | ⟨rfl, h⟩ | ⟨rfl, h, k⟩
        · rfl
        · rw [decide_eq_false (by omega : ¬ 0 ≤ n)]; rfl
        · rw [decide_eq_false (by omega : ¬ n ≤ L)]; simp
      exact ⟨by rw [HT0.out.1, if_neg (by rw [h]; simp)], h⟩
    clear HF hfold hT18 hF17 hMs hM
    rcases hbad with rfl | ⟨rfl, p1⟩ | ⟨rfl, p0, p2⟩
    · go_enter Tryz.func59, Tryz.ntmps59
      have t3 := Tryz.underlying3
      have u3 := Tryz.runUnderlying3
      have g3 := Tryz.isAgg3
      have z3 := Tryz.sizeOf3
      have t4 := Tryz.underlying4
      have u4 := Tryz.runUnderlying4
      have g4 := Tryz.isAgg4
      have z4 := Tryz.sizeOf4
      have t5 := Tryz.underlying5
      have u5 := Tryz.runUnderlying5
      have g5 := Tryz.isAgg5
      have z5 := Tryz.sizeOf5
      have t28 := Tryz.underlying28
      have u28 := Tryz.runUnderlying28
      have g28 := Tryz.isAgg28
      have z28 := Tryz.sizeOf28
      have t30 := Tryz.underlying30
      have u30 := Tryz.runUnderlying30
      have g30 := Tryz.isAgg30
      have z30 := Tryz.sizeOf30
      have t40 := Tryz.underlying40
      have u40 := Tryz.runUnderlying40
      have g40 := Tryz.isAgg40
      have z40 := Tryz.sizeOf40
      have c44 := Tryz.call44
      have c84 := Tryz.call84
      have c85 := Tryz.call85
      have mixed : Tryz.prog.follows .mixedOrders = true := by kernel_rfl
      obtain ⟨k30, hk30⟩ : ∃ k, k = 17 := ⟨_, rfl⟩
      rw [← hk30] at z30
      have nk30 : ¬ k30 = 0 := by omega
      have HK30 := Lib.hid hk30
      obtain ⟨k40, hk40⟩ : ∃ k, k = 18 := ⟨_, rfl⟩
      rw [← hk40] at z40
      have nk40 : ¬ k40 = 0 := by omega
      have HK40 := Lib.hid hk40
      have hP : Tryz.prog = PD := rfl
      rw [hP] at t3 u3 g3 z3 t4 u4 g4 z4 t5 u5 g5 z5 t28 u28 g28 z28 t30 u30 g30 z30 t40 u40 g40 z40 c44 c84 c85 mixed v40 ⊢
      have HP := Lib.hid hP.symm
      clear hP hk30 hk40
      have hAk : A.size = k30 := by rw [HK30.out]; exact hsz
      have hZk : Z.size = k40 := by rw [HK40.out]; exact hz18
      have HLD : Hid (∀ w', Fr No ((w.alloc (.cells A 30)).alloc (.cells Z 40)) w' → Sem.run PD (loadCellsFrom ⟨w.heap.size, 0, none⟩ 0 k30 #[]) w' = .ok A w' ∧ w'.heap[w.heap.size + 1]? = some (.cells Z 40 (0, 0))) := fun w' hf => ⟨load_block (hf.keep HB.out.1) hAk (fun j v hv => by simpa using hv), hf.keep HB.out.2.1⟩
      have HZ18 := Lib.hid hz18
      have hl0 := (HLD.out _ (Fr.refl _ _)).1
      clear hz18 hsz
      go_wp2_with (first | (go_at_call 44; refine (at_prog HP.out (HVA.out _)).mono ?_; rintro e w3 ⟨rfl, hf3⟩; have hl3 := (HLD.out w3 hf3).1; obtain ⟨y, hst, hyb, hyf⟩ := store_all (P := PD) Z.toList (HLD.out w3 hf3).2 (by rw [Array.length_toList]) HZ.out.2.1) | fail)
      refine bodyPost_ret_by (results_agg_tmp rfl _ (b := w.heap.size + 1) (k := 18) (cs := Z) (Tryz.isAgg40 _) (Tryz.sizeOf40 _) rfl (load_block hyb HZ18.out (fun j v hv => by simpa using hv))) rfl ?_
      exact ⟨by rw [HV.out.1, HV.out.2, HZ.out.1]; rfl, (HB.out.2.2.trans hf3).ofNew hyf fun k hk => .inr (by rw [hk]; omega)⟩
    · go_enter Tryz.func59, Tryz.ntmps59
      have t3 := Tryz.underlying3
      have u3 := Tryz.runUnderlying3
      have g3 := Tryz.isAgg3
      have z3 := Tryz.sizeOf3
      have t4 := Tryz.underlying4
      have u4 := Tryz.runUnderlying4
      have g4 := Tryz.isAgg4
      have z4 := Tryz.sizeOf4
      have t5 := Tryz.underlying5
      have u5 := Tryz.runUnderlying5
      have g5 := Tryz.isAgg5
      have z5 := Tryz.sizeOf5
      have t28 := Tryz.underlying28
      have u28 := Tryz.runUnderlying28
      have g28 := Tryz.isAgg28
      have z28 := Tryz.sizeOf28
      have t30 := Tryz.underlying30
      have u30 := Tryz.runUnderlying30
      have g30 := Tryz.isAgg30
      have z30 := Tryz.sizeOf30
      have t40 := Tryz.underlying40
      have u40 := Tryz.runUnderlying40
      have g40 := Tryz.isAgg40
      have z40 := Tryz.sizeOf40
      have c44 := Tryz.call44
      have c84 := Tryz.call84
      have c85 := Tryz.call85
      have mixed : Tryz.prog.follows .mixedOrders = true := by kernel_rfl
      obtain ⟨k30, hk30⟩ : ∃ k, k = 17 := ⟨_, rfl⟩
      rw [← hk30] at z30
      have nk30 : ¬ k30 = 0 := by omega
      have HK30 := Lib.hid hk30
      obtain ⟨k40, hk40⟩ : ∃ k, k = 18 := ⟨_, rfl⟩
      rw [← hk40] at z40
      have nk40 : ¬ k40 = 0 := by omega
      have HK40 := Lib.hid hk40
      have hP : Tryz.prog = PD := rfl
      rw [hP] at t3 u3 g3 z3 t4 u4 g4 z4 t5 u5 g5 z5 t28 u28 g28 z28 t30 u30 g30 z30 t40 u40 g40 z40 c44 c84 c85 mixed v40 ⊢
      have HP := Lib.hid hP.symm
      clear hP hk30 hk40
      have hAk : A.size = k30 := by rw [HK30.out]; exact hsz
      have hZk : Z.size = k40 := by rw [HK40.out]; exact hz18
      have HLD : Hid (∀ w', Fr No ((w.alloc (.cells A 30)).alloc (.cells Z 40)) w' → Sem.run PD (loadCellsFrom ⟨w.heap.size, 0, none⟩ 0 k30 #[]) w' = .ok A w' ∧ w'.heap[w.heap.size + 1]? = some (.cells Z 40 (0, 0))) := fun w' hf => ⟨load_block (hf.keep HB.out.1) hAk (fun j v hv => by simpa using hv), hf.keep HB.out.2.1⟩
      have HZ18 := Lib.hid hz18
      have hl0 := (HLD.out _ (Fr.refl _ _)).1
      clear hz18 hsz
      go_wp2_with (first | (go_at_call 44; refine (at_prog HP.out (HVA.out _)).mono ?_; rintro e w3 ⟨rfl, hf3⟩; have hl3 := (HLD.out w3 hf3).1; obtain ⟨y, hst, hyb, hyf⟩ := store_all (P := PD) Z.toList (HLD.out w3 hf3).2 (by rw [Array.length_toList]) HZ.out.2.1) | fail)
      refine bodyPost_ret_by (results_agg_tmp rfl _ (b := w.heap.size + 1) (k := 18) (cs := Z) (Tryz.isAgg40 _) (Tryz.sizeOf40 _) rfl (load_block hyb HZ18.out (fun j v hv => by simpa using hv))) rfl ?_
      exact ⟨by rw [HV.out.1, HV.out.2, HZ.out.1]; rfl, (HB.out.2.2.trans hf3).ofNew hyf fun k hk => .inr (by rw [hk]; omega)⟩
    · have p1 : ¬ n < 0 := by omega
      clear p0
      go_enter Tryz.func59, Tryz.ntmps59
      have t3 := Tryz.underlying3
      have u3 := Tryz.runUnderlying3
      have g3 := Tryz.isAgg3
      have z3 := Tryz.sizeOf3
      have t4 := Tryz.underlying4
      have u4 := Tryz.runUnderlying4
      have g4 := Tryz.isAgg4
      have z4 := Tryz.sizeOf4
      have t5 := Tryz.underlying5
      have u5 := Tryz.runUnderlying5
      have g5 := Tryz.isAgg5
      have z5 := Tryz.sizeOf5
      have t28 := Tryz.underlying28
      have u28 := Tryz.runUnderlying28
      have g28 := Tryz.isAgg28
      have z28 := Tryz.sizeOf28
      have t30 := Tryz.underlying30
      have u30 := Tryz.runUnderlying30
      have g30 := Tryz.isAgg30
      have z30 := Tryz.sizeOf30
      have t40 := Tryz.underlying40
      have u40 := Tryz.runUnderlying40
      have g40 := Tryz.isAgg40
      have z40 := Tryz.sizeOf40
      have c44 := Tryz.call44
      have c84 := Tryz.call84
      have c85 := Tryz.call85
      have mixed : Tryz.prog.follows .mixedOrders = true := by kernel_rfl
      obtain ⟨k30, hk30⟩ : ∃ k, k = 17 := ⟨_, rfl⟩
      rw [← hk30] at z30
      have nk30 : ¬ k30 = 0 := by omega
      have HK30 := Lib.hid hk30
      obtain ⟨k40, hk40⟩ : ∃ k, k = 18 := ⟨_, rfl⟩
      rw [← hk40] at z40
      have nk40 : ¬ k40 = 0 := by omega
      have HK40 := Lib.hid hk40
      have hP : Tryz.prog = PD := rfl
      rw [hP] at t3 u3 g3 z3 t4 u4 g4 z4 t5 u5 g5 z5 t28 u28 g28 z28 t30 u30 g30 z30 t40 u40 g40 z40 c44 c84 c85 mixed v40 ⊢
      have HP := Lib.hid hP.symm
      clear hP hk30 hk40
      have hAk : A.size = k30 := by rw [HK30.out]; exact hsz
      have hZk : Z.size = k40 := by rw [HK40.out]; exact hz18
      have HLD : Hid (∀ w', Fr No ((w.alloc (.cells A 30)).alloc (.cells Z 40)) w' → Sem.run PD (loadCellsFrom ⟨w.heap.size, 0, none⟩ 0 k30 #[]) w' = .ok A w' ∧ w'.heap[w.heap.size + 1]? = some (.cells Z 40 (0, 0))) := fun w' hf => ⟨load_block (hf.keep HB.out.1) hAk (fun j v hv => by simpa using hv), hf.keep HB.out.2.1⟩
      have HZ18 := Lib.hid hz18
      have hl0 := (HLD.out _ (Fr.refl _ _)).1
      clear hz18 hsz
      go_wp2_with (first | (go_at_call 44; refine (at_prog HP.out (HVA.out _)).mono ?_; rintro e w3 ⟨rfl, hf3⟩; have hl3 := (HLD.out w3 hf3).1; skip) | (go_at_call 84; refine (at_prog HP.out (HBL.out _)).mono ?_; rintro e w4 ⟨rfl, hf4⟩; obtain ⟨y, hst, hyb, hyf⟩ := store_all (P := PD) Z.toList (HLD.out w4 (hf3.trans hf4)).2 (by rw [Array.length_toList]) HZ.out.2.1) | fail)
      refine bodyPost_ret_by (results_agg_tmp rfl _ (b := w.heap.size + 1) (k := 18) (cs := Z) (Tryz.isAgg40 _) (Tryz.sizeOf40 _) rfl (load_block hyb HZ18.out (fun j v hv => by simpa using hv))) rfl ?_
      exact ⟨by rw [HV.out.1, HV.out.2, HZ.out.1]; rfl, ((HB.out.2.2.trans hf3).trans hf4).ofNew hyf fun k hk => .inr (by rw [hk]; omega)⟩
end Go.Proofs.YtmhnailcmlomiaaGreatDoor
