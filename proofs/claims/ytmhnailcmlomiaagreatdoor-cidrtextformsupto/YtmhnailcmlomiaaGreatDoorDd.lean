/-
  CONTRACTS of package cidr's Format and of the reference's FormatPrefix, over this seat's translation: what each call returns.
  Conditions: the argument is a prefix; the package variables are as Gl says.
-/
import Derived.Test.YtmhnailcmlomiaaGreatDoorDc
import Derived.Test.YtmhnailcmlomiaaGreatDoorRF
namespace Go.Proofs.YtmhnailcmlomiaaGreatDoor
open Go.ChangeShapes Go.WideShapes Go.ChangeAt Go.RowKit
set_option linter.unusedVariables false

/-- The notation of a prefix. -/
def fP (b : Bool) (xs : List Nat) (n : Int) : List UInt8 := if validP b xs n then oct8 (fmtA b xs) ++ 47 :: oct8 (decN n.toNat) else []

set_option maxHeartbeats 8000000 in
set_option maxRecDepth 100000 in
theorem cformat_any (b : Bool) (xs : List Nat) (n : Int) (hx : Bytes xs) (w : World) (hG : Gl w) :
    Calls Tryz.prog 29 #[.agg (pfx b xs n).toArray] w fun e w' => e = .returned (.string (bs (fP b xs n))) ∧ Fr No w w' := by
  have HV0 : Hid (∀ w', Calls Tryz.prog 19 #[.agg (pfx b xs n).toArray] w' fun e w'' => e = .returned (.bool (validP b xs n)) ∧ Fr No w' w'') := fun w' => validp_any b xs n hx w'
  have HF0 : Hid (∀ w', Gl w' → Calls Tryz.prog 64 #[.agg (adr b xs).toArray] w' fun e w'' => e = .returned (.string (bs (oct8 (fmtA b xs)))) ∧ Fr No w' w'') := fun w' h => by rw [← str_oct]; exact format_any b xs hx w' h
  obtain ⟨T, hT, -, h17, hs18, hTA, -⟩ := pfx_letter b xs n hx
  obtain ⟨A, hA, -, hsz, -⟩ := adr_letter b xs hx
  rw [hT] at HV0 ⊢
  rw [hA] at HF0 hTA
  have hb1 := heap_alloc_new w (.cells T 40)
  have hl1 : Sem.run Tryz.prog (loadCellsFrom ⟨w.heap.size, 0, none⟩ 0 18 #[]) (w.alloc (.cells T 40)) = .ok T (w.alloc (.cells T 40)) := load_block hb1 hs18 (fun j v hv => by simpa using hv)
  have hF := Fr.alloc No w (.cells T 40)
  have HB := Lib.hid (And.intro hb1 (And.intro h17 (And.intro hF (And.intro hs18 (And.intro (adr_part hsz hTA) hsz)))))
  have HG := Lib.hid hG
  clear hb1 h17 hF hTA hT hA
  cases hv : validP b xs n with
  | false =>
    have HV : Hid (fP b xs n = []) := by show _ = _; rw [fP, if_neg (by rw [hv]; simp)]
    rw [hv] at HV0
    clear hv HF0
    go_enter Tryz.func29, Tryz.ntmps29
    have t3 := Tryz.underlying3
    have u3 := Tryz.runUnderlying3
    have g3 := Tryz.isAgg3
    have z3 := Tryz.sizeOf3
    have t4 := Tryz.underlying4
    have u4 := Tryz.runUnderlying4
    have g4 := Tryz.isAgg4
    have z4 := Tryz.sizeOf4
    have t9 := Tryz.underlying9
    have u9 := Tryz.runUnderlying9
    have g9 := Tryz.isAgg9
    have z9 := Tryz.sizeOf9
    have t30 := Tryz.underlying30
    have u30 := Tryz.runUnderlying30
    have g30 := Tryz.isAgg30
    have z30 := Tryz.sizeOf30
    have t40 := Tryz.underlying40
    have u40 := Tryz.runUnderlying40
    have g40 := Tryz.isAgg40
    have z40 := Tryz.sizeOf40
    have c19 := Tryz.call19
    have c64 := Tryz.call64
    have c49 := Tryz.call49
    have mixed : Tryz.prog.follows .mixedOrders = true := by kernel_rfl
    obtain ⟨k30, hk30⟩ : ∃ k, k = 17 := ⟨_, rfl⟩
    rw [← hk30] at z30
    have nk30 : ¬ k30 = 0 := by omega
    have HK30 := Lib.hid hk30
    obtain ⟨k40, hk40⟩ : ∃ k, k = 18 := ⟨_, rfl⟩
    rw [← hk40] at z40
    have nk40 : ¬ k40 = 0 := by omega
    have HK40 := Lib.hid hk40
    have hP : Tryz.prog = PD := rfl
    rw [hP] at t3 u3 g3 z3 t4 u4 g4 z4 t9 u9 g9 z9 t30 u30 g30 z30 t40 u40 g40 z40 c19 c64 c49 mixed ⊢
    have HP := Lib.hid hP.symm
    clear hP hk30 hk40
    have hTk : T.size = k40 := by rw [HK40.out]; exact hs18
    have hld : Sem.run PD (loadCellsFrom ⟨w.heap.size, 0, none⟩ 0 k40 #[]) (w.alloc (.cells T 40)) = .ok T (w.alloc (.cells T 40)) := by rw [HK40.out]; exact hl1
    clear hl1 hs18
    go_wp2_with (first | (go_at_call 19; refine (at_prog HP.out (HV0.out _)).mono ?_; rintro e w3 ⟨rfl, hf3⟩) | fail)
    go_ret
    exact ⟨by rw [HV.out]; rfl, HB.out.2.2.1.trans hf3⟩
  | true =>
    have hp := validP_parts hv
    have hp0 := hp.2.1
    have hp1 : n ≤ 128 := Int.le_trans hp.2.2.1 (bitsOf_le b).2
    have HV : Hid (fP b xs n = oct8 (fmtA b xs) ++ 47 :: oct8 (decN n.toNat)) := by show _ = _; rw [fP, if_pos hv]
    have HIT : Hid (∀ w', Gl w' → Calls Tryz.prog 49 #[.int .i64 n] w' fun e w'' => e = .returned (.string (bs (oct8 (decN n.toNat)))) ∧ Fr No w' w'') := fun w' h => by
      have h1 := itoa_big n.toNat (by omega) w' h
      rw [show ((n.toNat : Nat) : Int) = n by omega] at h1
      exact h1
    have hz1 : (bs (oct8 (fmtA b xs))).size ≤ 100 := by rw [bs_size, oct8_length]; exact fmtA_length hx
    have hz2 : (bs (oct8 (fmtA b xs) ++ [47])).size ≤ 101 := by rw [bs_size, List.length_append, oct8_length]; have := fmtA_length (b := b) hx; simp; omega
    have hz3 : (bs (oct8 (decN n.toNat))).size ≤ 200 := by rw [bs_size, oct8_length]; have := decN_len n.toNat; omega
    have hap1 : bs (oct8 (fmtA b xs)) ++ (⟨#[47]⟩ : ByteArray) = bs (oct8 (fmtA b xs) ++ [47]) := bs_app _ [47]
    have hap2 : bs (oct8 (fmtA b xs) ++ [47]) ++ bs (oct8 (decN n.toNat)) = bs (fP b xs n) := by rw [bs_app, HV.out]; simp
    rw [hv] at HV0
    generalize bs (fP b xs n) = R at hap2 ⊢
    generalize bs (oct8 (fmtA b xs) ++ [47]) = f2 at hap1 hap2 hz2
    generalize bs (oct8 (fmtA b xs)) = f1 at hap1 HF0 hz1
    generalize bs (oct8 (decN n.toNat)) = f3 at hap2 HIT hz3
    have g1 : ¬ 9223372036854775807 < f1.size + 1 := by omega
    have g2 : ¬ 9223372036854775807 < f2.size + f3.size := by omega
    have g3 : ¬ 9223372036854775807 < f1.size + 1 + f3.size := by omega
    clear hz1 hz2 hz3
    clear hv HV hp hp0 hp1 hx
    go_enter Tryz.func29, Tryz.ntmps29
    have t3 := Tryz.underlying3
    have u3 := Tryz.runUnderlying3
    have g3 := Tryz.isAgg3
    have z3 := Tryz.sizeOf3
    have t4 := Tryz.underlying4
    have u4 := Tryz.runUnderlying4
    have g4 := Tryz.isAgg4
    have z4 := Tryz.sizeOf4
    have t9 := Tryz.underlying9
    have u9 := Tryz.runUnderlying9
    have g9 := Tryz.isAgg9
    have z9 := Tryz.sizeOf9
    have t30 := Tryz.underlying30
    have u30 := Tryz.runUnderlying30
    have g30 := Tryz.isAgg30
    have z30 := Tryz.sizeOf30
    have t40 := Tryz.underlying40
    have u40 := Tryz.runUnderlying40
    have g40 := Tryz.isAgg40
    have z40 := Tryz.sizeOf40
    have c19 := Tryz.call19
    have c64 := Tryz.call64
    have c49 := Tryz.call49
    have mixed : Tryz.prog.follows .mixedOrders = true := by kernel_rfl
    obtain ⟨k30, hk30⟩ : ∃ k, k = 17 := ⟨_, rfl⟩
    rw [← hk30] at z30
    have nk30 : ¬ k30 = 0 := by omega
    have HK30 := Lib.hid hk30
    obtain ⟨k40, hk40⟩ : ∃ k, k = 18 := ⟨_, rfl⟩
    rw [← hk40] at z40
    have nk40 : ¬ k40 = 0 := by omega
    have HK40 := Lib.hid hk40
    have hP : Tryz.prog = PD := rfl
    rw [hP] at t3 u3 g3 z3 t4 u4 g4 z4 t9 u9 g9 z9 t30 u30 g30 z30 t40 u40 g40 z40 c19 c64 c49 mixed ⊢
    have HP := Lib.hid hP.symm
    clear hP hk30 hk40
    have hTk : T.size = k40 := by rw [HK40.out]; exact hs18
    have hAk : A.size = k30 := by rw [HK30.out]; exact hsz
    have hld : Sem.run PD (loadCellsFrom ⟨w.heap.size, 0, none⟩ 0 k40 #[]) (w.alloc (.cells T 40)) = .ok T (w.alloc (.cells T 40)) := by rw [HK40.out]; exact hl1
    clear hl1 hs18 hsz
    go_wp2_with (first | (go_at_call 19; refine (at_prog HP.out (HV0.out _)).mono ?_; rintro e w3 ⟨rfl, hf3⟩) | fail)
    have F3 := Lib.hid (HB.out.2.2.1.trans hf3)
    have HLD : Hid (∀ w', Fr No w3 w' → Sem.run PD (loadCellsFrom ⟨w.heap.size, 0, none⟩ 0 k30 #[]) w' = .ok A w' ∧ w'.cell? ⟨w.heap.size, 17, none⟩ = some (.int .i64 n)) := fun w' hf => by
      have hb := (hf3.trans hf).keep HB.out.1
      exact ⟨load_block hb hAk HB.out.2.2.2.2.1, by rw [cell_of_row _ _ _ _ _ _ hb]; exact HB.out.2.1⟩
    clear hf3 hld
    generalize w.heap.size = nb at HLD ⊢
    have f5 : Fr No w3 w3.drew := Fr.drew No _
    have m := (HLD.out _ f5).1
    have mm := (HLD.out _ f5).2
    go_region_held3 (fun w' => Sem.run PD (loadCellsFrom ⟨nb, 0, none⟩ 0 k30 #[]) w' = .ok A w' ∧ w'.cell? ⟨nb, 17, none⟩ = some (.int .i64 n)) (constructor <;> assumption) (first | (go_at_call 64; with_reducible refine (at_prog HP.out (HF0.out w3.drew (HG.out.fr (F3.out.trans f5)))).mono ?_; rintro e x0 ⟨rfl, h0⟩; have g0 := f5.trans h0; have m0 := (HLD.out _ g0).1; have n0 := (HLD.out _ g0).2; clear h0) | (go_at_call 49; with_reducible refine (at_prog HP.out (HIT.out w3.drew (HG.out.fr (F3.out.trans f5)))).mono ?_; rintro e x1 ⟨rfl, h1⟩; have g1 := f5.trans h1; have m1 := (HLD.out _ g1).1; have n1 := (HLD.out _ g1).2; clear h1) | (go_at_call 49; with_reducible refine (at_prog HP.out (HIT.out x0 (HG.out.fr (F3.out.trans g0)))).mono ?_; rintro e x2 ⟨rfl, h2⟩; have g2 := g0.trans h2; have m2 := (HLD.out _ g2).1; have n2 := (HLD.out _ g2).2; clear h2) | (go_at_call 64; with_reducible refine (at_prog HP.out (HF0.out x1 (HG.out.fr (F3.out.trans g1)))).mono ?_; rintro e x2 ⟨rfl, h2⟩; have g2 := g1.trans h2; have m2 := (HLD.out _ g2).1; have n2 := (HLD.out _ g2).2; clear h2))
    all_goals (
      go_wp2_with fail
      go_ret
      exact ⟨rfl, F3.out.trans g2⟩)

set_option maxHeartbeats 8000000 in
set_option maxRecDepth 100000 in
theorem cformat_ref (b : Bool) (xs : List Nat) (n : Int) (hx : Bytes xs) (w : World) :
    Calls Tryz.prog 30 #[.agg (pfx b xs n).toArray] w fun e w' => e = .returned (.string (bs (fP b xs n))) ∧ Fr No w w' := by
  have HV0 : Hid (∀ w', Calls Tryz.prog 20 #[.agg (pfx b xs n).toArray] w' fun e w'' => e = .returned (.bool (validP b xs n)) ∧ Fr No w' w'') := fun w' => validp_ref b xs n hx w'
  have HF0 : Hid (∀ w', Calls Tryz.prog 33 #[.agg (adr b xs).toArray] w' fun e w'' => e = .returned (.string (bs (oct8 (fmtA b xs)))) ∧ Fr No w' w'') := fun w' => by rw [← str_oct]; exact format_ref b xs hx w'
  obtain ⟨T, hT, -, h17, hs18, hTA, -⟩ := pfx_letter b xs n hx
  obtain ⟨A, hA, -, hsz, -⟩ := adr_letter b xs hx
  rw [hT] at HV0 ⊢
  rw [hA] at HF0 hTA
  have hb1 := heap_alloc_new w (.cells T 40)
  have hl1 : Sem.run Tryz.prog (loadCellsFrom ⟨w.heap.size, 0, none⟩ 0 18 #[]) (w.alloc (.cells T 40)) = .ok T (w.alloc (.cells T 40)) := load_block hb1 hs18 (fun j v hv => by simpa using hv)
  have hF := Fr.alloc No w (.cells T 40)
  have HB := Lib.hid (And.intro hb1 (And.intro h17 (And.intro hF (And.intro hs18 (And.intro (adr_part hsz hTA) hsz)))))
  clear hb1 h17 hF hTA hT hA
  cases hv : validP b xs n with
  | false =>
    have HV : Hid (fP b xs n = []) := by show _ = _; rw [fP, if_neg (by rw [hv]; simp)]
    rw [hv] at HV0
    clear hv HF0
    go_enter Tryz.func30, Tryz.ntmps30
    have t3 := Tryz.underlying3
    have u3 := Tryz.runUnderlying3
    have g3 := Tryz.isAgg3
    have z3 := Tryz.sizeOf3
    have t4 := Tryz.underlying4
    have u4 := Tryz.runUnderlying4
    have g4 := Tryz.isAgg4
    have z4 := Tryz.sizeOf4
    have t9 := Tryz.underlying9
    have u9 := Tryz.runUnderlying9
    have g9 := Tryz.isAgg9
    have z9 := Tryz.sizeOf9
    have t30 := Tryz.underlying30
    have u30 := Tryz.runUnderlying30
    have g30 := Tryz.isAgg30
    have z30 := Tryz.sizeOf30
    have t40 := Tryz.underlying40
    have u40 := Tryz.runUnderlying40
    have g40 := Tryz.isAgg40
    have z40 := Tryz.sizeOf40
    have c20 := Tryz.call20
    have c33 := Tryz.call33
    have c34 := Tryz.call34
    have mixed : Tryz.prog.follows .mixedOrders = true := by kernel_rfl
    obtain ⟨k30, hk30⟩ : ∃ k, k = 17 := ⟨_, rfl⟩
    rw [← hk30] at z30
    have nk30 : ¬ k30 = 0 := by omega
    have HK30 := Lib.hid hk30
    obtain ⟨k40, hk40⟩ : ∃ k, k = 18 := ⟨_, rfl⟩
    rw [← hk40] at z40
    have nk40 : ¬ k40 = 0 := by omega
    have HK40 := Lib.hid hk40
    have hP : Tryz.prog = PD := rfl
    rw [hP] at t3 u3 g3 z3 t4 u4 g4 z4 t9 u9 g9 z9 t30 u30 g30 z30 t40 u40 g40 z40 c20 c33 c34 mixed ⊢
    have HP := Lib.hid hP.symm
    clear hP hk30 hk40
    have hTk : T.size = k40 := by rw [HK40.out]; exact hs18
    have hld : Sem.run PD (loadCellsFrom ⟨w.heap.size, 0, none⟩ 0 k40 #[]) (w.alloc (.cells T 40)) = .ok T (w.alloc (.cells T 40)) := by rw [HK40.out]; exact hl1
    clear hl1 hs18
    go_wp2_with (first | (go_at_call 20; refine (at_prog HP.out (HV0.out _)).mono ?_; rintro e w3 ⟨rfl, hf3⟩) | fail)
    go_ret
    exact ⟨by rw [HV.out]; rfl, HB.out.2.2.1.trans hf3⟩
  | true =>
    have hp := validP_parts hv
    have hp0 := hp.2.1
    have hp1 : n ≤ 128 := Int.le_trans hp.2.2.1 (bitsOf_le b).2
    have HV : Hid (fP b xs n = oct8 (fmtA b xs) ++ 47 :: oct8 (decN n.toNat)) := by show _ = _; rw [fP, if_pos hv]
    have HIT : Hid (∀ w', Calls Tryz.prog 34 #[.int .i64 n] w' fun e w'' => e = .returned (.string (bs (oct8 (decN n.toNat)))) ∧ Fr No w' w'') := fun w' => by
      have h1 := fdec_ref n.toNat (by omega) w'
      rw [show ((n.toNat : Nat) : Int) = n by omega] at h1
      exact h1
    have hz1 : (bs (oct8 (fmtA b xs))).size ≤ 100 := by rw [bs_size, oct8_length]; exact fmtA_length hx
    have hz2 : (bs (oct8 (fmtA b xs) ++ [47])).size ≤ 101 := by rw [bs_size, List.length_append, oct8_length]; have := fmtA_length (b := b) hx; simp; omega
    have hz3 : (bs (oct8 (decN n.toNat))).size ≤ 200 := by rw [bs_size, oct8_length]; have := decN_len n.toNat; omega
    have hap1 : bs (oct8 (fmtA b xs)) ++ (⟨#[47]⟩ : ByteArray) = bs (oct8 (fmtA b xs) ++ [47]) := bs_app _ [47]
    have hap2 : bs (oct8 (fmtA b xs) ++ [47]) ++ bs (oct8 (decN n.toNat)) = bs (fP b xs n) := by rw [bs_app, HV.out]; simp
    rw [hv] at HV0
    generalize bs (fP b xs n) = R at hap2 ⊢
    generalize bs (oct8 (fmtA b xs) ++ [47]) = f2 at hap1 hap2 hz2
    generalize bs (oct8 (fmtA b xs)) = f1 at hap1 HF0 hz1
    generalize bs (oct8 (decN n.toNat)) = f3 at hap2 HIT hz3
    have g1 : ¬ 9223372036854775807 < f1.size + 1 := by omega
    have g2 : ¬ 9223372036854775807 < f2.size + f3.size := by omega
    have g3 : ¬ 9223372036854775807 < f1.size + 1 + f3.size := by omega
    clear hz1 hz2 hz3
    clear hv HV hp hp0 hp1 hx
    go_enter Tryz.func30, Tryz.ntmps30
    have t3 := Tryz.underlying3
    have u3 := Tryz.runUnderlying3
    have g3 := Tryz.isAgg3
    have z3 := Tryz.sizeOf3
    have t4 := Tryz.underlying4
    have u4 := Tryz.runUnderlying4
    have g4 := Tryz.isAgg4
    have z4 := Tryz.sizeOf4
    have t9 := Tryz.underlying9
    have u9 := Tryz.runUnderlying9
    have g9 := Tryz.isAgg9
    have z9 := Tryz.sizeOf9
    have t30 := Tryz.underlying30
    have u30 := Tryz.runUnderlying30
    have g30 := Tryz.isAgg30
    have z30 := Tryz.sizeOf30
    have t40 := Tryz.underlying40
    have u40 := Tryz.runUnderlying40
    have g40 := Tryz.isAgg40
    have z40 := Tryz.sizeOf40
    have c20 := Tryz.call20
    have c33 := Tryz.call33
    have c34 := Tryz.call34
    have mixed : Tryz.prog.follows .mixedOrders = true := by kernel_rfl
    obtain ⟨k30, hk30⟩ : ∃ k, k = 17 := ⟨_, rfl⟩
    rw [← hk30] at z30
    have nk30 : ¬ k30 = 0 := by omega
    have HK30 := Lib.hid hk30
    obtain ⟨k40, hk40⟩ : ∃ k, k = 18 := ⟨_, rfl⟩
    rw [← hk40] at z40
    have nk40 : ¬ k40 = 0 := by omega
    have HK40 := Lib.hid hk40
    have hP : Tryz.prog = PD := rfl
    rw [hP] at t3 u3 g3 z3 t4 u4 g4 z4 t9 u9 g9 z9 t30 u30 g30 z30 t40 u40 g40 z40 c20 c33 c34 mixed ⊢
    have HP := Lib.hid hP.symm
    clear hP hk30 hk40
    have hTk : T.size = k40 := by rw [HK40.out]; exact hs18
    have hAk : A.size = k30 := by rw [HK30.out]; exact hsz
    have hld : Sem.run PD (loadCellsFrom ⟨w.heap.size, 0, none⟩ 0 k40 #[]) (w.alloc (.cells T 40)) = .ok T (w.alloc (.cells T 40)) := by rw [HK40.out]; exact hl1
    clear hl1 hs18 hsz
    go_wp2_with (first | (go_at_call 20; refine (at_prog HP.out (HV0.out _)).mono ?_; rintro e w3 ⟨rfl, hf3⟩) | fail)
    have F3 := Lib.hid (HB.out.2.2.1.trans hf3)
    have HLD : Hid (∀ w', Fr No w3 w' → Sem.run PD (loadCellsFrom ⟨w.heap.size, 0, none⟩ 0 k30 #[]) w' = .ok A w' ∧ w'.cell? ⟨w.heap.size, 17, none⟩ = some (.int .i64 n)) := fun w' hf => by
      have hb := (hf3.trans hf).keep HB.out.1
      exact ⟨load_block hb hAk HB.out.2.2.2.2.1, by rw [cell_of_row _ _ _ _ _ _ hb]; exact HB.out.2.1⟩
    clear hf3 hld
    generalize w.heap.size = nb at HLD ⊢
    have f5 : Fr No w3 w3.drew := Fr.drew No _
    have m := (HLD.out _ f5).1
    have mm := (HLD.out _ f5).2
    go_region_held3 (fun w' => Sem.run PD (loadCellsFrom ⟨nb, 0, none⟩ 0 k30 #[]) w' = .ok A w' ∧ w'.cell? ⟨nb, 17, none⟩ = some (.int .i64 n)) (constructor <;> assumption) (first | (go_at_call 33; with_reducible refine (at_prog HP.out (HF0.out w3.drew)).mono ?_; rintro e x0 ⟨rfl, h0⟩; have g0 := f5.trans h0; have m0 := (HLD.out _ g0).1; have n0 := (HLD.out _ g0).2; clear h0) | (go_at_call 34; with_reducible refine (at_prog HP.out (HIT.out w3.drew)).mono ?_; rintro e x1 ⟨rfl, h1⟩; have g1 := f5.trans h1; have m1 := (HLD.out _ g1).1; have n1 := (HLD.out _ g1).2; clear h1) | (go_at_call 34; with_reducible refine (at_prog HP.out (HIT.out x0)).mono ?_; rintro e x2 ⟨rfl, h2⟩; have g2 := g0.trans h2; have m2 := (HLD.out _ g2).1; have n2 := (HLD.out _ g2).2; clear h2) | (go_at_call 33; with_reducible refine (at_prog HP.out (HF0.out x1)).mono ?_; rintro e x2 ⟨rfl, h2⟩; have g2 := g1.trans h2; have m2 := (HLD.out _ g2).1; have n2 := (HLD.out _ g2).2; clear h2))
    all_goals (
      go_wp2_with fail
      go_ret
      exact ⟨rfl, F3.out.trans g2⟩)
end Go.Proofs.YtmhnailcmlomiaaGreatDoor
