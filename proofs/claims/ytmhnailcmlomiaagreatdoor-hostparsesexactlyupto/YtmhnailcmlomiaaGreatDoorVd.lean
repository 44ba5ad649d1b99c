/-
  CONTRACTS of the reference's FormatTarget, over this seat's translation: what each call returns.
  Conditions: the argument is a target.
-/
import Derived.Test.YtmhnailcmlomiaaGreatDoorVa
import Derived.Test.YtmhnailcmlomiaaGreatDoorV1
import Derived.Test.YtmhnailcmlomiaaGreatDoorRF
namespace Go.Proofs.YtmhnailcmlomiaaGreatDoor
open Go.ChangeShapes Go.WideShapes Go.ChangeAt Go.RowKit
set_option linter.unusedVariables false

set_option maxHeartbeats 4000000 in
set_option maxRecDepth 100000 in
theorem format_tref (nl : List UInt8) (b : Bool) (xs : List Nat) (p : Int) (hx : Bytes xs) (w : World) :
    Calls Tryz.prog 15 #[.agg (tgt (bs nl) b xs p).toArray] w fun e w' => e = .returned (.string (bs (fT nl b xs p))) ∧ Fr No w w' := by
  have HV0 : Hid (∀ w', Calls Tryz.prog 13 #[.agg (tgt (bs nl) b xs p).toArray] w' fun e w'' => e = .returned (.bool (vT nl b xs p)) ∧ Fr No w' w'') := fun w' => valid_tref nl b xs p hx w'
  obtain ⟨T, hT, h0, h1, h18, hs19, hT2, hT1⟩ := tgt_letter (bs nl) b xs p hx
  rw [hT] at HV0 ⊢
  clear hT
  obtain ⟨A, hA, -, hA17, -⟩ := adr_letter b xs hx
  rw [hA] at hT2
  have HFM : Hid (∀ w', Calls Tryz.prog 33 #[.agg A] w' fun e w'' => e = .returned (.string (bs (oct8 (fmtA b xs)))) ∧ Fr No w' w'') := fun w' => by rw [← hA, ← str_oct]; exact format_ref b xs hx w'
  have hb1 := heap_alloc_new w (.cells T 32)
  have hl1 : Sem.run Tryz.prog (loadCellsFrom ⟨w.heap.size, 0, none⟩ 0 19 #[]) (w.alloc (.cells T 32)) = .ok T (w.alloc (.cells T 32)) := load_block hb1 hs19 (fun j v hv => by simpa using hv)
  have hF := Fr.alloc No w (.cells T 32)
  obtain ⟨w1, hw1⟩ : ∃ w1, w.alloc (.cells T 32) = w1 := ⟨_, rfl⟩
  obtain ⟨nb, hnb⟩ : ∃ nb, w.heap.size = nb := ⟨_, rfl⟩
  rw [hw1, hnb] at hb1 hl1
  rw [hw1] at hF
  have HLC : Hid (∀ w', Fr No w1 w' → w'.cell? ⟨nb, 0, none⟩ = some (.string (bs nl)) ∧ w'.cell? ⟨nb, 1, none⟩ = some (.bool b) ∧ w'.cell? ⟨nb, 18, none⟩ = some (.int .i64 p) ∧ ∀ P k, k = 17 → Sem.run P (loadCellsFrom ⟨nb, 1, none⟩ 0 k #[]) w' = .ok A w') := fun w' hf => by
    have hb := hf.keep hb1
    exact ⟨by rw [cell_of_row _ _ _ _ _ _ hb]; exact h0, by rw [cell_of_row _ _ _ _ _ _ hb]; exact h1, by rw [cell_of_row _ _ _ _ _ _ hb]; exact h18, fun P k hk => load_block hb (hA17.trans hk.symm) hT2⟩
  have HF := Lib.hid hF
  have hemp := bs_empty nl
  clear hb1 h18 hT1 hF h0 h1 hT2 hA
  cases hv : vT nl b xs p with
  | false =>
    have HV : Hid (fT nl b xs p = []) := by show _ = _; rw [fT, if_neg (by rw [hv]; simp)]
    rw [hv] at HV0
    clear hv HFM hemp
    go_enter Tryz.func15, Tryz.ntmps15
    have t3 := Tryz.underlying3
    have u3 := Tryz.runUnderlying3
    have g3 := Tryz.isAgg3
    have z3 := Tryz.sizeOf3
    have t9 := Tryz.underlying9
    have u9 := Tryz.runUnderlying9
    have g9 := Tryz.isAgg9
    have z9 := Tryz.sizeOf9
    have t32 := Tryz.underlying32
    have u32 := Tryz.runUnderlying32
    have g32 := Tryz.isAgg32
    have z32 := Tryz.sizeOf32
    have c13 := Tryz.call13
    have c33 := Tryz.call33
    have c34 := Tryz.call34
    have mixed : Tryz.prog.follows .mixedOrders = true := by kernel_rfl
    obtain ⟨k62, hk62⟩ : ∃ k, k = 19 := ⟨_, rfl⟩
    rw [← hk62] at z32
    have nk62 : ¬ k62 = 0 := by omega
    have HK32 := Lib.hid hk62
    have hP : Tryz.prog = PD := rfl
    rw [hP] at t3 u3 g3 z3 t9 u9 g9 z9 t32 u32 g32 z32 c13 c33 c34 mixed ⊢
    have HP := Lib.hid hP.symm
    clear hP hk62
    have hTk : T.size = k62 := by rw [HK32.out]; exact hs19
    have hld : Sem.run PD (loadCellsFrom ⟨nb, 0, none⟩ 0 k62 #[]) w1 = .ok T w1 := by rw [HK32.out]; exact hl1
    clear hl1 hs19 hA17
    go_wp2_with (first | (go_at_call 13; refine (at_prog HP.out (HV0.out _)).mono ?_; rintro e w3 ⟨rfl, hf3⟩) | fail)
    go_ret
    exact ⟨by rw [HV.out]; rfl, HF.out.trans hf3⟩
  | true =>
    obtain ⟨hp1, hp2, hlen⟩ := vT_parts hv hx
    have HV : Hid (fT nl b xs p = fhV nl b xs ++ 58 :: oct8 (decN p.toNat)) := by show _ = _; rw [fT, if_pos hv]
    have HIT : Hid (∀ w', Calls Tryz.prog 34 #[.int .i64 p] w' fun e w'' => e = .returned (.string (bs (oct8 (decN p.toNat)))) ∧ Fr No w' w'') := fun w' => by
      have h1 := fdec_ref p.toNat (by omega) w'
      rw [show ((p.toNat : Nat) : Int) = p by omega, str_oct] at h1
      exact h1
    have hz1 : (bs (fhV nl b xs)).size ≤ 253 := by rw [bs_size]; exact hlen
    have hz2 : (bs (fhV nl b xs ++ [58])).size ≤ 254 := by rw [bs_size, List.length_append]; simp; omega
    have hz3 : (bs (oct8 (decN p.toNat))).size ≤ 70000 := by rw [bs_size, oct8_length]; have := decN_len p.toNat; omega
    have hap1 : bs (fhV nl b xs) ++ (⟨#[58]⟩ : ByteArray) = bs (fhV nl b xs ++ [58]) := bs_app _ [58]
    have hap2 : bs (fhV nl b xs ++ [58]) ++ bs (oct8 (decN p.toNat)) = bs (fT nl b xs p) := by rw [bs_app, HV.out]; simp
    rw [hv] at HV0
    clear hv HV hlen hp1 hp2
    have hq1 : (bs (oct8 (fmtA b xs))).size ≤ 100 := by rw [bs_size, oct8_length]; exact fmtA_length hx
    have hq2 : (bs (91 :: oct8 (fmtA b xs))).size ≤ 101 := by rw [bs_size, List.length_cons, oct8_length]; have := fmtA_length (b := b) hx; omega
    have hbr1 : (⟨#[91]⟩ : ByteArray) ++ bs (oct8 (fmtA b xs)) = bs (91 :: oct8 (fmtA b xs)) := bs_app [91] _
    have hbr2 : bs (91 :: oct8 (fmtA b xs)) ++ (⟨#[93]⟩ : ByteArray) = bs (91 :: (oct8 (fmtA b xs) ++ [93])) := bs_app _ [93]
    generalize bs (fT nl b xs p) = R at hap2 ⊢
    generalize bs (fhV nl b xs ++ [58]) = f2 at hap1 hap2 hz2
    generalize bs (oct8 (decN p.toNat)) = f3 at hap2 HIT hz3
    obtain ⟨f1, hf1⟩ : ∃ f1, bs (fhV nl b xs) = f1 := ⟨_, rfl⟩
    rw [hf1] at hap1 hz1
    have g1 : ¬ 9223372036854775807 < f1.size + 1 := by omega
    have g2 : ¬ 9223372036854775807 < f2.size + f3.size := by omega
    have g3 : ¬ 9223372036854775807 < f1.size + 1 + f3.size := by omega
    clear hz1 hz2 hz3
    by_cases hn : nl = []
    · rw [decide_eq_true hn] at hemp
      cases b
      · have hf1' : bs (oct8 (fmtA false xs)) = f1 := by rw [← hf1]; unfold fhV; rw [if_pos hn]; rfl
        rw [hf1'] at HFM
        clear hn hbr1 hbr2 hq1 hq2 hf1 hf1'
        generalize bs nl = s at HLC hemp
        go_enter Tryz.func15, Tryz.ntmps15
        have t3 := Tryz.underlying3
        have u3 := Tryz.runUnderlying3
        have g3 := Tryz.isAgg3
        have z3 := Tryz.sizeOf3
        have t4 := Tryz.underlying4
        have u4 := Tryz.runUnderlying4
        have g4 := Tryz.isAgg4
        have z4 := Tryz.sizeOf4
        have t9 := Tryz.underlying9
        have u9 := Tryz.runUnderlying9
        have g9 := Tryz.isAgg9
        have z9 := Tryz.sizeOf9
        have t28 := Tryz.underlying28
        have u28 := Tryz.runUnderlying28
        have g28 := Tryz.isAgg28
        have z28 := Tryz.sizeOf28
        have t30 := Tryz.underlying30
        have u30 := Tryz.runUnderlying30
        have g30 := Tryz.isAgg30
        have z30 := Tryz.sizeOf30
        have t32 := Tryz.underlying32
        have u32 := Tryz.runUnderlying32
        have g32 := Tryz.isAgg32
        have z32 := Tryz.sizeOf32
        have c13 := Tryz.call13
        have c33 := Tryz.call33
        have c34 := Tryz.call34
        have mixed : Tryz.prog.follows .mixedOrders = true := by kernel_rfl
        obtain ⟨k24, hk24⟩ : ∃ k, k = 17 := ⟨_, rfl⟩
        rw [← hk24] at z30
        have nk24 : ¬ k24 = 0 := by omega
        have HK30 := Lib.hid hk24
        obtain ⟨k62, hk62⟩ : ∃ k, k = 19 := ⟨_, rfl⟩
        rw [← hk62] at z32
        have nk62 : ¬ k62 = 0 := by omega
        have HK32 := Lib.hid hk62
        have hP : Tryz.prog = PD := rfl
        rw [hP] at t3 u3 g3 z3 t4 u4 g4 z4 t9 u9 g9 z9 t28 u28 g28 z28 t30 u30 g30 z30 t32 u32 g32 z32 c13 c33 c34 mixed ⊢
        have HP := Lib.hid hP.symm
        clear hP hk24 hk62
        have hTk : T.size = k62 := by rw [HK32.out]; exact hs19
        have hAk : A.size = k24 := by rw [HK30.out]; exact hA17
        have hld : Sem.run PD (loadCellsFrom ⟨nb, 0, none⟩ 0 k62 #[]) w1 = .ok T w1 := by rw [HK32.out]; exact hl1
        clear hl1 hs19 hA17
        go_wp2_with (first | (go_at_call 13; refine (at_prog HP.out (HV0.out _)).mono ?_; rintro e w3 ⟨rfl, hf3⟩; obtain ⟨m0, m1, m2, m3⟩ := HLC.out w3 hf3; have m4 := m3 PD k24 HK30.out; clear m3) | (go_at_call 33; refine (at_prog HP.out (HFM.out _)).mono ?_; rintro e w4 ⟨rfl, hf4⟩; obtain ⟨n0, n1, n2, n3⟩ := HLC.out w4 (hf3.trans hf4); clear n3) | (go_at_call 34; refine (at_prog HP.out (HIT.out _)).mono ?_; rintro e w5 ⟨rfl, hf5⟩) | fail)
        go_ret
        exact ⟨rfl, HF.out.trans ((hf3.trans hf4).trans hf5)⟩
      · have hf1' : bs (91 :: (oct8 (fmtA true xs) ++ [93])) = f1 := by rw [← hf1]; unfold fhV; rw [if_pos hn]; rfl
        rw [hf1'] at hbr2
        generalize bs (91 :: oct8 (fmtA true xs)) = h2 at hbr1 hbr2 hq2
        generalize bs (oct8 (fmtA true xs)) = h1 at hbr1 HFM hq1
        have g4 : ¬ 9223372036854775807 < 1 + h1.size := by omega
        have g5 : ¬ 9223372036854775807 < h2.size + 1 := by omega
        have g6 : ¬ 9223372036854775807 < 1 + h1.size + 1 := by omega
        have g7 : ¬ 9223372036854775807 < h1.size + 1 := by omega
        clear hn hq1 hq2 hf1 hf1'
        generalize bs nl = s at HLC hemp
        go_enter Tryz.func15, Tryz.ntmps15
        have t3 := Tryz.underlying3
        have u3 := Tryz.runUnderlying3
        have g3 := Tryz.isAgg3
        have z3 := Tryz.sizeOf3
        have t4 := Tryz.underlying4
        have u4 := Tryz.runUnderlying4
        have g4 := Tryz.isAgg4
        have z4 := Tryz.sizeOf4
        have t9 := Tryz.underlying9
        have u9 := Tryz.runUnderlying9
        have g9 := Tryz.isAgg9
        have z9 := Tryz.sizeOf9
        have t28 := Tryz.underlying28
        have u28 := Tryz.runUnderlying28
        have g28 := Tryz.isAgg28
        have z28 := Tryz.sizeOf28
        have t30 := Tryz.underlying30
        have u30 := Tryz.runUnderlying30
        have g30 := Tryz.isAgg30
        have z30 := Tryz.sizeOf30
        have t32 := Tryz.underlying32
        have u32 := Tryz.runUnderlying32
        have g32 := Tryz.isAgg32
        have z32 := Tryz.sizeOf32
        have c13 := Tryz.call13
        have c33 := Tryz.call33
        have c34 := Tryz.call34
        have mixed : Tryz.prog.follows .mixedOrders = true := by kernel_rfl
        obtain ⟨k24, hk24⟩ : ∃ k, k = 17 := ⟨_, rfl⟩
        rw [← hk24] at z30
        have nk24 : ¬ k24 = 0 := by omega
        have HK30 := Lib.hid hk24
        obtain ⟨k62, hk62⟩ : ∃ k, k = 19 := ⟨_, rfl⟩
        rw [← hk62] at z32
        have nk62 : ¬ k62 = 0 := by omega
        have HK32 := Lib.hid hk62
        have hP : Tryz.prog = PD := rfl
        rw [hP] at t3 u3 g3 z3 t4 u4 g4 z4 t9 u9 g9 z9 t28 u28 g28 z28 t30 u30 g30 z30 t32 u32 g32 z32 c13 c33 c34 mixed ⊢
        have HP := Lib.hid hP.symm
        clear hP hk24 hk62
        have hTk : T.size = k62 := by rw [HK32.out]; exact hs19
        have hAk : A.size = k24 := by rw [HK30.out]; exact hA17
        have hld : Sem.run PD (loadCellsFrom ⟨nb, 0, none⟩ 0 k62 #[]) w1 = .ok T w1 := by rw [HK32.out]; exact hl1
        clear hl1 hs19 hA17
        go_wp2_with (first | (go_at_call 13; refine (at_prog HP.out (HV0.out _)).mono ?_; rintro e w3 ⟨rfl, hf3⟩; obtain ⟨m0, m1, m2, m3⟩ := HLC.out w3 hf3; have m4 := m3 PD k24 HK30.out; clear m3) | (go_at_call 33; refine (at_prog HP.out (HFM.out _)).mono ?_; rintro e w4 ⟨rfl, hf4⟩; obtain ⟨n0, n1, n2, n3⟩ := HLC.out w4 (hf3.trans hf4); clear n3) | (go_at_call 34; refine (at_prog HP.out (HIT.out _)).mono ?_; rintro e w5 ⟨rfl, hf5⟩) | fail)
        go_ret
        exact ⟨rfl, HF.out.trans ((hf3.trans hf4).trans hf5)⟩
    · rw [decide_eq_false hn] at hemp
      have hf1' : bs nl = f1 := by rw [← hf1]; unfold fhV; rw [if_neg hn]
      rw [hf1'] at HLC hemp
      clear hn hbr1 hbr2 hq1 hq2 hf1 hf1' HFM
      go_enter Tryz.func15, Tryz.ntmps15
      have t3 := Tryz.underlying3
      have u3 := Tryz.runUnderlying3
      have g3 := Tryz.isAgg3
      have z3 := Tryz.sizeOf3
      have t4 := Tryz.underlying4
      have u4 := Tryz.runUnderlying4
      have g4 := Tryz.isAgg4
      have z4 := Tryz.sizeOf4
      have t9 := Tryz.underlying9
      have u9 := Tryz.runUnderlying9
      have g9 := Tryz.isAgg9
      have z9 := Tryz.sizeOf9
      have t28 := Tryz.underlying28
      have u28 := Tryz.runUnderlying28
      have g28 := Tryz.isAgg28
      have z28 := Tryz.sizeOf28
      have t30 := Tryz.underlying30
      have u30 := Tryz.runUnderlying30
      have g30 := Tryz.isAgg30
      have z30 := Tryz.sizeOf30
      have t32 := Tryz.underlying32
      have u32 := Tryz.runUnderlying32
      have g32 := Tryz.isAgg32
      have z32 := Tryz.sizeOf32
      have c13 := Tryz.call13
      have c33 := Tryz.call33
      have c34 := Tryz.call34
      have mixed : Tryz.prog.follows .mixedOrders = true := by kernel_rfl
      obtain ⟨k24, hk24⟩ : ∃ k, k = 17 := ⟨_, rfl⟩
      rw [← hk24] at z30
      have nk24 : ¬ k24 = 0 := by omega
      have HK30 := Lib.hid hk24
      obtain ⟨k62, hk62⟩ : ∃ k, k = 19 := ⟨_, rfl⟩
      rw [← hk62] at z32
      have nk62 : ¬ k62 = 0 := by omega
      have HK32 := Lib.hid hk62
      have hP : Tryz.prog = PD := rfl
      rw [hP] at t3 u3 g3 z3 t4 u4 g4 z4 t9 u9 g9 z9 t28 u28 g28 z28 t30 u30 g30 z30 t32 u32 g32 z32 c13 c33 c34 mixed ⊢
      have HP := Lib.hid hP.symm
      clear hP hk24 hk62
      have hTk : T.size = k62 := by rw [HK32.out]; exact hs19
      have hAk : A.size = k24 := by rw [HK30.out]; exact hA17
      have hld : Sem.run PD (loadCellsFrom ⟨nb, 0, none⟩ 0 k62 #[]) w1 = .ok T w1 := by rw [HK32.out]; exact hl1
      clear hl1 hs19 hA17
      go_wp2_with (first | (go_at_call 13; refine (at_prog HP.out (HV0.out _)).mono ?_; rintro e w3 ⟨rfl, hf3⟩; obtain ⟨m0, m1, m2, m3⟩ := HLC.out w3 hf3; have m4 := m3 PD k24 HK30.out; clear m3) | (go_at_call 33; refine (at_prog HP.out (HFM.out _)).mono ?_; rintro e w4 ⟨rfl, hf4⟩; obtain ⟨n0, n1, n2, n3⟩ := HLC.out w4 (hf3.trans hf4); clear n3) | (go_at_call 34; refine (at_prog HP.out (HIT.out _)).mono ?_; rintro e w5 ⟨rfl, hf5⟩) | fail)
      go_ret
      exact ⟨rfl, HF.out.trans (hf3.trans hf5)⟩
end Go.Proofs.YtmhnailcmlomiaaGreatDoor
