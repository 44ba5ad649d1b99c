/-
  CONTRACT of the reference's PrefixOf, over this seat's translation: what the call returns.
  Conditions: the argument is an address.
-/
import Derived.Test.YtnbohhiooigmbaaCb
import Derived.Test.YtnbohhiooigmbaaR10
namespace Go.Proofs.Ytnbohhiooigmbaa
open Go.ChangeShapes Go.WideShapes Go.ChangeAt Go.RowKit
set_option linter.unusedVariables false

set_option maxHeartbeats 4000000 in
set_option maxRecDepth 100000 in
theorem pof_ref (b : Bool) (xs : List Nat) (n : Int) (hx : Bytes xs) (w : World) :
    Calls Try.prog 23 #[.agg (adr b xs).toArray, .int .i64 n] w fun e w' => e = .returned (.tuple #[.agg (pofT b xs n).toArray, .bool (pofB b xs n)]) ∧ Fr No w w' := by
  obtain ⟨Z, hZ⟩ : ∃ Z : Array Value, noP.toArray = Z := ⟨_, rfl⟩
  have v40 := zero31
  rw [hZ] at v40
  have hz18 : Z.size = 18 := by rw [← hZ]; rfl
  have hZ1 : ∀ u ∈ Z.toList, u.oneCell' = true := by rw [← hZ]; exact pfx_one _ _ _
  obtain ⟨A, hA, h0, hsz, -⟩ := adr_letter b xs hx
  have HVA : Hid (∀ w', Calls Try.prog 30 #[.agg A] w' fun e w'' => e = .returned (.bool (validA b xs)) ∧ Fr No w' w'') := fun w' => by rw [← hA]; exact valid_ref b xs hx w'
  have HBL : Hid (∀ w', Calls Try.prog 22 #[.agg A] w' fun e w'' => e = .returned (.int .i64 (bitsOf b)) ∧ Fr No w' w'') := fun w' => bitLen_R b A h0 w'
  obtain ⟨b1, b2, hF⟩ := alloc2 w (.cells A 29) (.cells Z 31)
  have HB : Hid (((w.alloc (.cells A 29)).alloc (.cells Z 31)).heap[w.heap.size]? = some (.cells A 29 (0, 0)) ∧ ((w.alloc (.cells A 29)).alloc (.cells Z 31)).heap[w.heap.size + 1]? = some (.cells Z 31 (0, 0)) ∧ Fr No w ((w.alloc (.cells A 29)).alloc (.cells Z 31))) := ⟨b1, b2, hF⟩
  clear b1 b2 hF
  have HZ := Lib.hid (And.intro hZ (And.intro hZ1 hA))
  have hfold := put_pfx b (pofX b xs n) n (pofX_bytes hx n).1
  have hT1 : ∀ u ∈ (pfx b (pofX b xs n) n).toArray.toList, u.oneCell' = true := by intro u hu; exact pfx_one _ _ _ u (by simpa using hu)
  have hT18 : (pfx b (pofX b xs n) n).toArray.size = 18 := by rw [List.size_toArray]; exact pfx_length (pofX_bytes hx n).1
  rw [hZ] at hfold
  have HX := Lib.hid hx
  have HT0 : Hid (pofT b xs n = (if pofB b xs n then pfx b (pofX b xs n) n else noP) ∧ pofB b xs n = (validA b xs && decide (0 ≤ n) && decide (n ≤ bitsOf b))) := ⟨rfl, rfl⟩
  obtain ⟨F, hFF⟩ : ∃ F : Array Value, (adr b (pofX b xs n)).toArray = F := ⟨_, rfl⟩
  have hF17 : F.size = 17 := by rw [← hFF, List.size_toArray, adr_length, (pofX_bytes hx n).1]
  obtain ⟨T, hTT⟩ : ∃ T : Array Value, (pfx b (pofX b xs n) n).toArray = T := ⟨_, rfl⟩
  rw [hFF] at hfold
  rw [hTT] at hfold hT1 hT18
  obtain ⟨M, hM⟩ : ∃ M, Array.foldl (fun (cs : Array Value) (x : Value × Nat) => cs.setIfInBounds x.snd x.fst) Z F.zipIdx 0 17 = M := ⟨_, rfl⟩
  rw [hM] at hfold
  have hMs : M.size = 18 := by have h := hT18; rw [← hfold, Array.size_setIfInBounds] at h; exact h
  have HT := Lib.hid (And.intro hTT (And.intro hT1 hT18))
  rw [hA]
  have HFA := Lib.hid hFF
  have HBO : Hid (0 ≤ bitsOf b ∧ bitsOf b ≤ 128) := bitsOf_le b
  have hFdef : Hid (∀ k B : Nat, (k : Int) = n → (B : Int) = bitsOf b → k ≤ B → pofX b xs n = clrs xs k (B - k)) := fun k B hk hB hkB => by rw [pofX, ← hk, ← hB]; congr 1; omega
  clear hZ hZ1 hA hx hFF hTT hT1
  generalize validA b xs = va at HVA HT0
  obtain ⟨L, hLL⟩ : ∃ L, bitsOf b = L := ⟨_, rfl⟩
  rw [hLL] at HBL HBO HT0 hFdef
  have HBB := Lib.hid hLL
  clear hLL
  have hV : ((va = true ∧ 0 ≤ n ∧ n ≤ L) ∨ va = false ∨ (va = true ∧ n < 0) ∨ (va = true ∧ 0 ≤ n ∧ L < n)) := by
    cases va
    · exact .inr (.inl rfl)
    · by_cases h1 : n < 0
      · exact .inr (.inr (.inl ⟨rfl, h1⟩))
      · by_cases h2 : L < n
        · exact .inr (.inr (.inr ⟨rfl, by omega, h2⟩))
        · exact .inl ⟨rfl, by omega, by omega⟩
  rcases hV with ⟨rfl, h1, h2⟩ | hbad
  · have HV : Hid (pofT b xs n = pfx b (pofX b xs n) n ∧ pofB b xs n = true) := by
      have h : pofB b xs n = true := by rw [HT0.out.2, decide_eq_true h1, decide_eq_true h2]; rfl
      exact ⟨by rw [HT0.out.1, if_pos h], h⟩
    obtain ⟨k, rfl⟩ : ∃ k : Nat, n = k := ⟨n.toNat, by omega⟩
    obtain ⟨B, rfl⟩ : ∃ B : Nat, L = B := ⟨L.toNat, by have := HBO.out; omega⟩
    have hB128 : B ≤ 128 := by have := HBO.out; omega
    have hkB : k ≤ B := by omega
    have hFD := hFdef.out k B rfl rfl hkB
    have p1 : decide ((k : Int) < 0) = false := decide_eq_false (by omega)
    have p2 : decide (B < k) = false := decide_eq_false (by omega)
    have HFD := Lib.hid hFD
    clear h1 h2 hFD hFdef HBO
    go_enter Try.func23, Try.ntmps23
    have t3 := Try.underlying3
    have u3 := Try.runUnderlying3
    have g3 := Try.isAgg3
    have z3 := Try.sizeOf3
    have t4 := Try.underlying4
    have u4 := Try.runUnderlying4
    have g4 := Try.isAgg4
    have z4 := Try.sizeOf4
    have t5 := Try.underlying5
    have u5 := Try.runUnderlying5
    have g5 := Try.isAgg5
    have z5 := Try.sizeOf5
    have t27 := Try.underlying27
    have u27 := Try.runUnderlying27
    have g27 := Try.isAgg27
    have z27 := Try.sizeOf27
    have t29 := Try.underlying29
    have u29 := Try.runUnderlying29
    have g29 := Try.isAgg29
    have z29 := Try.sizeOf29
    have t31 := Try.underlying31
    have u31 := Try.runUnderlying31
    have g31 := Try.isAgg31
    have z31 := Try.sizeOf31
    have t76 := Try.underlying76
    have u76 := Try.runUnderlying76
    have g76 := Try.isAgg76
    have z76 := Try.sizeOf76
    have c30 := Try.call30
    have c22 := Try.call22
    have mixed : Try.prog.follows .mixedOrders = true := by kernel_rfl
    obtain ⟨k30, hk30⟩ : ∃ k, k = 17 := ⟨_, rfl⟩
    rw [← hk30] at z29
    have nk30 : ¬ k30 = 0 := by omega
    have HK29 := Lib.hid hk30
    obtain ⟨k40, hk40⟩ : ∃ k, k = 18 := ⟨_, rfl⟩
    rw [← hk40] at z31
    have nk40 : ¬ k40 = 0 := by omega
    have HK31 := Lib.hid hk40
    have hP : Try.prog = PD := rfl
    rw [hP] at t3 u3 g3 z3 t4 u4 g4 z4 t5 u5 g5 z5 t27 u27 g27 z27 t29 u29 g29 z29 t31 u31 g31 z31 t76 u76 g76 z76 c30 c22 mixed v40 ⊢
    have HP := Lib.hid hP.symm
    clear hP hk30 hk40
    have hAk : A.size = k30 := by rw [HK29.out]; exact hsz
    have hZk : Z.size = k40 := by rw [HK31.out]; exact hz18
    have hTk : T.size = k40 := by rw [HK31.out]; exact HT.out.2.2
    have hMk : M.size = k40 := by rw [HK31.out]; exact hMs
    have hFk : F.size = k30 := by rw [HK29.out]; exact hF17
    rw [← HK29.out] at hM
    have i3 : k30 ≤ k40 := by have := HK29.out; have := HK31.out; omega
    have i4 : 17 < k40 := by have := HK31.out; omega
    have HLD : Hid (∀ w', Fr No ((w.alloc (.cells A 29)).alloc (.cells Z 31)) w' → Sem.run PD (loadCellsFrom ⟨w.heap.size, 0, none⟩ 0 k30 #[]) w' = .ok A w' ∧ w'.heap[w.heap.size + 1]? = some (.cells Z 31 (0, 0)) ∧ w'.heap[w.heap.size]? = some (.cells A 29 (0, 0))) := fun w' hf => ⟨load_block (hf.keep HB.out.1) hAk (fun j v hv => by simpa using hv), hf.keep HB.out.2.1, hf.keep HB.out.1⟩
    have hl0 := (HLD.out _ (Fr.refl _ _)).1
    have HSZ := Lib.hid (And.intro hsz hF17)
    have HM := Lib.hid hM
    clear hMs hT18 hz18 hsz hF17 hM
    go_wp2_with (first | (go_at_call 30; refine (at_prog HP.out (HVA.out _)).mono ?_; rintro e w3 ⟨rfl, hf3⟩; have hl3 := (HLD.out w3 hf3).1) | (go_at_call 22; refine (at_prog HP.out (HBL.out _)).mono ?_; rintro e w4 ⟨rfl, hf4⟩) | fail)
    have HN : Hid (Fr No w w4 ∧ w4.heap[w.heap.size]? = some (.cells A 29 (0, 0)) ∧ w4.heap[w.heap.size + 1]? = some (.cells Z 31 (0, 0))) := ⟨(HB.out.2.2.trans hf3).trans hf4, (HLD.out _ (hf3.trans hf4)).2.2, (HLD.out _ (hf3.trans hf4)).2.1⟩
    clear hf3 hf4 hl3 hl0
    obtain ⟨m, hm⟩ : ∃ m, w.heap.size = m := ⟨_, rfl⟩
    rw [hm] at HN ⊢
    have Hm := Lib.hid hm
    clear hm HLD HB
    go_loopg [6] (B - k + 1) (fun g s wr => ∃ i : Nat, s = .int .i64 i ∧ k ≤ i ∧ i ≤ B ∧ B - i < g ∧ Hid (Fr (fun k => k = m) w4 wr ∧ wr.heap[m]? = some (.cells (adr b (clrs xs k (i - k))).toArray 29 (0, 0))))
    case atStart =>
      refine ⟨k, by go_num, by omega, hkB, by omega, Fr.refl _ _, ?_⟩
      rw [Nat.sub_self, show clrs xs k 0 = xs from rfl, HZ.out.2.2]
      exact HN.out.2.1
    case round =>
      obtain ⟨i, rfl, hni, hiB, hig, HR⟩ := hrel
      have hcb := clrs_bytes (n := k) HX.out (i - k)
      obtain ⟨C, hC, h0c, hszc, hj⟩ := adr_letter b (clrs xs k (i - k)) hcb
      have hb1 := HR.out.2
      rw [hC] at hb1
      have HL : Hid (∀ w', Fr No wr w' → Sem.run PD (loadCellsFrom ⟨m, 0, none⟩ 0 k30 #[]) w' = .ok C w' ∧ w'.heap[m]? = some (.cells C 29 (0, 0))) := fun w' hf => ⟨load_block (hf.keep hb1) (by rw [HK29.out]; exact hszc) (fun j v hv => by simpa using hv), hf.keep hb1⟩
      have hl1 := (HL.out wr (Fr.refl _ _)).1
      have HBL2 : Hid (∀ w', Calls Try.prog 22 #[.agg C] w' fun e w'' => e = .returned (.int .i64 B) ∧ Fr No w' w'') := fun w' => by
        have h := bitLen_R b C h0c w'
        rw [HBB.out] at h
        exact h
      by_cases hi : i = B
      · have hCF : C = F := by rw [← hC, ← HFA.out, HFD.out, hi]
        subst hCF
        have HSTO : Hid (∀ w', Fr No wr w' → ∃ y, Sem.run PD (storeCells ⟨m + 1, 0, none⟩ T.toList 0) w' = .ok () y ∧ y.heap[m + 1]? = some (.cells T 31 (0, 0)) ∧ Fr No w y) := fun w' hf => by
          have hbn : w'.heap[m + 1]? = some (.cells Z 31 (0, 0)) := hf.keep ((HR.out.1.block (m + 1) (Array.getElem?_eq_some_iff.1 HN.out.2.2).1 (by omega)).trans HN.out.2.2)
          obtain ⟨y, hst, hyb, hyf⟩ := store_all (P := PD) T.toList hbn (by rw [Array.length_toList, hTk, hZk]) HT.out.2.1
          refine ⟨y, hst, by simpa using hyb, ?_⟩
          refine ((HN.out.1.ofNew HR.out.1 fun k hk => .inr (by rw [Hm.out, hk]; exact Nat.le_refl _)).trans hf).ofNew hyf fun k hk => .inr (by rw [Hm.out, hk]; omega)
        have hib : ¬ (i : Int) < (B : Int) := by omega
        have hM := HM.out
        clear hszc
        go_wp2_with (first | (go_at_call 22; refine (at_prog HP.out (HBL2.out _)).mono ?_; rintro e w5 ⟨rfl, hf5⟩; have hl5 := (HL.out w5 hf5).1; obtain ⟨y, hst, hyb, hyf⟩ := HSTO.out w5 hf5) | fail)
        refine bodyPost_ret_by (results_agg_tmp rfl _ (b := m + 1) (k := 18) (cs := T) (Try.isAgg31 _) (Try.sizeOf31 _) rfl (load_block hyb HT.out.2.2 (fun j v hv => by simpa using hv))) rfl ?_
        exact ⟨by rw [HV.out.1, HV.out.2, HT.out.1]; rfl, hyf⟩
      · have q2 : (i : Int) < (B : Int) := by omega
        have hi16 : i / 8 < 16 := by omega
        obtain ⟨x, hxn⟩ : ∃ x, (clrs xs k (i - k))[i / 8]? = some x := ⟨_, List.getElem?_eq_getElem (by rw [hcb.1]; exact hi16)⟩
        have hx255 : x < 256 := hcb.2 x (List.mem_of_getElem? hxn)
        have HC : Hid (∀ w', Fr No wr w' → w'.cell? ⟨m, 1 + i / 8, none⟩ = some (.int .u8 x) ∧ w'.frozen? ⟨m, 1 + i / 8, none⟩ = false) := fun w' hf => by
          have hb' := (HL.out w' hf).2
          exact ⟨by rw [cell_of_row _ _ _ _ _ _ hb']; exact hj _ _ hxn, frozen_of_row _ _ _ _ _ hb'⟩
        have hbits : bits .andNot .u8 (x : Int) (2 ^ (7 - i % 8) % 256) = ((offB x (7 - i % 8) : Nat) : Int) := by
          rw [← bits_off hx255 (m := 7 - i % 8) (by omega)]
          have h := pow_lt_256 (m := 7 - i % 8) (by omega)
          have e : (2 : Int) ^ (7 - i % 8) % 256 = ((2 ^ (7 - i % 8) : Nat) : Int) := by
            rw [show (2 : Int) ^ (7 - i % 8) = ((2 ^ (7 - i % 8) : Nat) : Int) by simp]
            generalize 2 ^ (7 - i % 8) = q at h ⊢
            omega
          rw [e]
        have HX : Hid (x < 256 ∧ (clrs xs k (i - k)).set (i / 8) (offB x (7 - i % 8)) = clrs xs k (i + 1 - k)) := ⟨hx255, by
          rw [show i + 1 - k = i - k + 1 by omega, clrs, clr, show k + (i - k) = i by omega, List.getD_eq_getElem?_getD, hxn]; rfl⟩
        have HB0 : Hid ((adr b (clrs xs k (i - k))).toArray = C) := hC
        have HBT := Lib.hid hbits
        clear hb1 hC hj h0c hbits
        go_wp2_with (first | (go_at_call 22; refine (at_prog HP.out (HBL2.out _)).mono ?_; rintro e w5 ⟨rfl, hf5⟩; have hl5 := (HL.out w5 hf5).1; have c3 := (HC.out w5 hf5).1; have c4 := (HC.out w5 hf5).2) | fail)
        rw [HBT.out]
        have HW : Hid (Fr (fun k => k = m) w4 (w5.setCell ⟨m, 1 + i / 8, none⟩ (.int .u8 (offB x (7 - i % 8) : Nat))) ∧ (w5.setCell ⟨m, 1 + i / 8, none⟩ (.int .u8 (offB x (7 - i % 8) : Nat))).heap[m]? = some (.cells (adr b (clrs xs k (i + 1 - k))).toArray 29 (0, 0))) := by
          have hb3 : w5.heap[m]? = some (.cells (adr b (clrs xs k (i - k))).toArray 29 (0, 0)) := by rw [HB0.out]; exact (HL.out w5 hf5).2
          refine ⟨(HR.out.1.trans hf5.no).trans (Fr.setCell (fun k => k = m) _ _ _ rfl), ?_⟩
          have e1 := adr_set (i := i / 8) (x := offB x (7 - i % 8)) hb3
          rw [HX.out.2] at e1
          exact e1
        generalize w5.setCell ⟨m, 1 + i / 8, none⟩ (.int .u8 (offB x (7 - i % 8) : Nat)) = w6 at HW ⊢
        go_roundg (B - i)
        case measure => exact hig
        case rel => exact ⟨i + 1, by go_num, by omega, by omega, by omega, HW.out.1, HW.out.2⟩
  · have HV : Hid (pofT b xs n = noP ∧ pofB b xs n = false) := by
      have h : pofB b xs n = false := by
        rw [HT0.out.2]
        rcases hbad with rfl | ⟨rfl, h⟩ | ⟨rfl, h, k⟩
        · rfl
        · rw [decide_eq_false (by omega : ¬ 0 ≤ n)]; rfl
        · rw [decide_eq_false (by omega : ¬ n ≤ L)]; simp
      exact ⟨by rw [HT0.out.1, if_neg (by rw [h]; simp)], h⟩
    clear hfold hT18 hF17 hMs hM
    rcases hbad with rfl | ⟨rfl, p1⟩ | ⟨rfl, p0, p2⟩
    · go_enter Try.func23, Try.ntmps23
      have t3 := Try.underlying3
      have u3 := Try.runUnderlying3
      have g3 := Try.isAgg3
      have z3 := Try.sizeOf3
      have t4 := Try.underlying4
      have u4 := Try.runUnderlying4
      have g4 := Try.isAgg4
      have z4 := Try.sizeOf4
      have t5 := Try.underlying5
      have u5 := Try.runUnderlying5
      have g5 := Try.isAgg5
      have z5 := Try.sizeOf5
      have t27 := Try.underlying27
      have u27 := Try.runUnderlying27
      have g27 := Try.isAgg27
      have z27 := Try.sizeOf27
      have t29 := Try.underlying29
      have u29 := Try.runUnderlying29
      have g29 := Try.isAgg29
      have z29 := Try.sizeOf29
      have t31 := Try.underlying31
      have u31 := Try.runUnderlying31
      have g31 := Try.isAgg31
      have z31 := Try.sizeOf31
      have t76 := Try.underlying76
      have u76 := Try.runUnderlying76
      have g76 := Try.isAgg76
      have z76 := Try.sizeOf76
      have c30 := Try.call30
      have c22 := Try.call22
      have mixed : Try.prog.follows .mixedOrders = true := by kernel_rfl
      obtain ⟨k30, hk30⟩ : ∃ k, k = 17 := ⟨_, rfl⟩
      rw [← hk30] at z29
      have nk30 : ¬ k30 = 0 := by omega
      have HK29 := Lib.hid hk30
      obtain ⟨k40, hk40⟩ : ∃ k, k = 18 := ⟨_, rfl⟩
      rw [← hk40] at z31
      have nk40 : ¬ k40 = 0 := by omega
      have HK31 := Lib.hid hk40
      have hP : Try.prog = PD := rfl
      rw [hP] at t3 u3 g3 z3 t4 u4 g4 z4 t5 u5 g5 z5 t27 u27 g27 z27 t29 u29 g29 z29 t31 u31 g31 z31 t76 u76 g76 z76 c30 c22 mixed v40 ⊢
      have HP := Lib.hid hP.symm
      clear hP hk30 hk40
      have hAk : A.size = k30 := by rw [HK29.out]; exact hsz
      have hZk : Z.size = k40 := by rw [HK31.out]; exact hz18
      have HLD : Hid (∀ w', Fr No ((w.alloc (.cells A 29)).alloc (.cells Z 31)) w' → Sem.run PD (loadCellsFrom ⟨w.heap.size, 0, none⟩ 0 k30 #[]) w' = .ok A w' ∧ w'.heap[w.heap.size + 1]? = some (.cells Z 31 (0, 0))) := fun w' hf => ⟨load_block (hf.keep HB.out.1) hAk (fun j v hv => by simpa using hv), hf.keep HB.out.2.1⟩
      have HZ18 := Lib.hid hz18
      have hl0 := (HLD.out _ (Fr.refl _ _)).1
      clear hz18 hsz
      go_wp2_with (first | (go_at_call 30; refine (at_prog HP.out (HVA.out _)).mono ?_; rintro e w3 ⟨rfl, hf3⟩; have hl3 := (HLD.out w3 hf3).1; obtain ⟨y, hst, hyb, hyf⟩ := store_all (P := PD) Z.toList (HLD.out w3 hf3).2 (by rw [Array.length_toList]) HZ.out.2.1) | fail)
      refine bodyPost_ret_by (results_agg_tmp rfl _ (b := w.heap.size + 1) (k := 18) (cs := Z) (Try.isAgg31 _) (Try.sizeOf31 _) rfl (load_block hyb HZ18.out (fun j v hv => by simpa using hv))) rfl ?_
      exact ⟨by rw [HV.out.1, HV.out.2, HZ.out.1]; rfl, (HB.out.2.2.trans hf3).ofNew hyf fun k hk => .inr (by rw [hk]; omega)⟩
    · go_enter Try.func23, Try.ntmps23
      have t3 := Try.underlying3
      have u3 := Try.runUnderlying3
      have g3 := Try.isAgg3
      have z3 := Try.sizeOf3
      have t4 := Try.underlying4
      have u4 := Try.runUnderlying4
      have g4 := Try.isAgg4
      have z4 := Try.sizeOf4
      have t5 := Try.underlying5
      have u5 := Try.runUnderlying5
      have g5 := Try.isAgg5
      have z5 := Try.sizeOf5
      have t27 := Try.underlying27
      have u27 := Try.runUnderlying27
      have g27 := Try.isAgg27
      have z27 := Try.sizeOf27
      have t29 := Try.underlying29
      have u29 := Try.runUnderlying29
      have g29 := Try.isAgg29
      have z29 := Try.sizeOf29
      have t31 := Try.underlying31
      have u31 := Try.runUnderlying31
      have g31 := Try.isAgg31
      have z31 := Try.sizeOf31
      have t76 := Try.underlying76
      have u76 := Try.runUnderlying76
      have g76 := Try.isAgg76
      have z76 := Try.sizeOf76
      have c30 := Try.call30
      have c22 := Try.call22
      have mixed : Try.prog.follows .mixedOrders = true := by kernel_rfl
      obtain ⟨k30, hk30⟩ : ∃ k, k = 17 := ⟨_, rfl⟩
      rw [← hk30] at z29
      have nk30 : ¬ k30 = 0 := by omega
      have HK29 := Lib.hid hk30
      obtain ⟨k40, hk40⟩ : ∃ k, k = 18 := ⟨_, rfl⟩
      rw [← hk40] at z31
      have nk40 : ¬ k40 = 0 := by omega
      have HK31 := Lib.hid hk40
      have hP : Try.prog = PD := rfl
      rw [hP] at t3 u3 g3 z3 t4 u4 g4 z4 t5 u5 g5 z5 t27 u27 g27 z27 t29 u29 g29 z29 t31 u31 g31 z31 t76 u76 g76 z76 c30 c22 mixed v40 ⊢
      have HP := Lib.hid hP.symm
      clear hP hk30 hk40
      have hAk : A.size = k30 := by rw [HK29.out]; exact hsz
      have hZk : Z.size = k40 := by rw [HK31.out]; exact hz18
      have HLD : Hid (∀ w', Fr No ((w.alloc (.cells A 29)).alloc (.cells Z 31)) w' → Sem.run PD (loadCellsFrom ⟨w.heap.size, 0, none⟩ 0 k30 #[]) w' = .ok A w' ∧ w'.heap[w.heap.size + 1]? = some (.cells Z 31 (0, 0))) := fun w' hf => ⟨load_block (hf.keep HB.out.1) hAk (fun j v hv => by simpa using hv), hf.keep HB.out.2.1⟩
      have HZ18 := Lib.hid hz18
      have hl0 := (HLD.out _ (Fr.refl _ _)).1
      clear hz18 hsz
      go_wp2_with (first | (go_at_call 30; refine (at_prog HP.out (HVA.out _)).mono ?_; rintro e w3 ⟨rfl, hf3⟩; have hl3 := (HLD.out w3 hf3).1; obtain ⟨y, hst, hyb, hyf⟩ := store_all (P := PD) Z.toList (HLD.out w3 hf3).2 (by rw [Array.length_toList]) HZ.out.2.1) | fail)
      refine bodyPost_ret_by (results_agg_tmp rfl _ (b := w.heap.size + 1) (k := 18) (cs := Z) (Try.isAgg31 _) (Try.sizeOf31 _) rfl (load_block hyb HZ18.out (fun j v hv => by simpa using hv))) rfl ?_
      exact ⟨by rw [HV.out.1, HV.out.2, HZ.out.1]; rfl, (HB.out.2.2.trans hf3).ofNew hyf fun k hk => .inr (by rw [hk]; omega)⟩
    · have p1 : ¬ n < 0 := by omega
      clear p0
      go_enter Try.func23, Try.ntmps23
      have t3 := Try.underlying3
      have u3 := Try.runUnderlying3
      have g3 := Try.isAgg3
      have z3 := Try.sizeOf3
      have t4 := Try.underlying4
      have u4 := Try.runUnderlying4
      have g4 := Try.isAgg4
      have z4 := Try.sizeOf4
      have t5 := Try.underlying5
      have u5 := Try.runUnderlying5
      have g5 := Try.isAgg5
      have z5 := Try.sizeOf5
      have t27 := Try.underlying27
      have u27 := Try.runUnderlying27
      have g27 := Try.isAgg27
      have z27 := Try.sizeOf27
      have t29 := Try.underlying29
      have u29 := Try.runUnderlying29
      have g29 := Try.isAgg29
      have z29 := Try.sizeOf29
      have t31 := Try.underlying31
      have u31 := Try.runUnderlying31
      have g31 := Try.isAgg31
      have z31 := Try.sizeOf31
      have t76 := Try.underlying76
      have u76 := Try.runUnderlying76
      have g76 := Try.isAgg76
      have z76 := Try.sizeOf76
      have c30 := Try.call30
      have c22 := Try.call22
      have mixed : Try.prog.follows .mixedOrders = true := by kernel_rfl
      obtain ⟨k30, hk30⟩ : ∃ k, k = 17 := ⟨_, rfl⟩
      rw [← hk30] at z29
      have nk30 : ¬ k30 = 0 := by omega
      have HK29 := Lib.hid hk30
      obtain ⟨k40, hk40⟩ : ∃ k, k = 18 := ⟨_, rfl⟩
      rw [← hk40] at z31
      have nk40 : ¬ k40 = 0 := by omega
      have HK31 := Lib.hid hk40
      have hP : Try.prog = PD := rfl
      rw [hP] at t3 u3 g3 z3 t4 u4 g4 z4 t5 u5 g5 z5 t27 u27 g27 z27 t29 u29 g29 z29 t31 u31 g31 z31 t76 u76 g76 z76 c30 c22 mixed v40 ⊢
      have HP := Lib.hid hP.symm
      clear hP hk30 hk40
      have hAk : A.size = k30 := by rw [HK29.out]; exact hsz
      have hZk : Z.size = k40 := by rw [HK31.out]; exact hz18
      have HLD : Hid (∀ w', Fr No ((w.alloc (.cells A 29)).alloc (.cells Z 31)) w' → Sem.run PD (loadCellsFrom ⟨w.heap.size, 0, none⟩ 0 k30 #[]) w' = .ok A w' ∧ w'.heap[w.heap.size + 1]? = some (.cells Z 31 (0, 0))) := fun w' hf => ⟨load_block (hf.keep HB.out.1) hAk (fun j v hv => by simpa using hv), hf.keep HB.out.2.1⟩
      have HZ18 := Lib.hid hz18
      have hl0 := (HLD.out _ (Fr.refl _ _)).1
      clear hz18 hsz
      go_wp2_with (first | (go_at_call 30; refine (at_prog HP.out (HVA.out _)).mono ?_; rintro e w3 ⟨rfl, hf3⟩; have hl3 := (HLD.out w3 hf3).1; skip) | (go_at_call 22; refine (at_prog HP.out (HBL.out _)).mono ?_; rintro e w4 ⟨rfl, hf4⟩; obtain ⟨y, hst, hyb, hyf⟩ := store_all (P := PD) Z.toList (HLD.out w4 (hf3.trans hf4)).2 (by rw [Array.length_toList]) HZ.out.2.1) | fail)
      refine bodyPost_ret_by (results_agg_tmp rfl _ (b := w.heap.size + 1) (k := 18) (cs := Z) (Try.isAgg31 _) (Try.sizeOf31 _) rfl (load_block hyb HZ18.out (fun j v hv => by simpa using hv))) rfl ?_
      exact ⟨by rw [HV.out.1, HV.out.2, HZ.out.1]; rfl, ((HB.out.2.2.trans hf3).trans hf4).ofNew hyf fun k hk => .inr (by rw [hk]; omega)⟩
end Go.Proofs.Ytnbohhiooigmbaa
