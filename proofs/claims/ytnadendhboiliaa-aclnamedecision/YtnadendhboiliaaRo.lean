/-
  CONTRACTS of the reference's ValidRules, AllowsAddr, AllowsName and AllowsTarget and of package acl's AllowsTarget, over this seat's translation: what each call returns.
  Conditions: the rules, or the list, lie in memory; the argument is an address, or a target.
-/
import Derived.Test.YtnadendhboiliaaRn
import Derived.Test.YtnadendhboiliaaHt
namespace Go.Proofs.Ytnadendhboiliaa
open Go.ChangeShapes Go.WideShapes Go.ChangeAt Go.RowKit
set_option linter.unusedVariables false

set_option maxHeartbeats 4000000 in
set_option maxRecDepth 100000 in
theorem vrs_ref (L : List Ru) (n : Nat) (hn : L.length = n) (hm : n ≤ 9223372036854775807) (a : Option Addr) (cp : Nat) (w : World) (hr : RowR w a L) :
    Calls Try.prog 12 #[.slice a n cp] w fun e w' => e = .returned (.bool (vRs L)) ∧ Fr No w w' := by
  have HR0 := Lib.hid hr
  have HN := Lib.hid hn
  clear hr hn
  go_enter Try.func12, Try.ntmps12
  have t3 := Try.underlying3
  have u3 := Try.runUnderlying3
  have g3 := Try.isAgg3
  have z3 := Try.sizeOf3
  have t4 := Try.underlying4
  have u4 := Try.runUnderlying4
  have g4 := Try.isAgg4
  have z4 := Try.sizeOf4
  have t22 := Try.underlying22
  have u22 := Try.runUnderlying22
  have g22 := Try.isAgg22
  have z22 := Try.sizeOf22
  have t30 := Try.underlying30
  have u30 := Try.runUnderlying30
  have g30 := Try.isAgg30
  have z30 := Try.sizeOf30
  have c9 := Try.call9
  have mixed : Try.prog.follows .mixedOrders = true := by kernel_rfl
  obtain ⟨k22, hk22⟩ : ∃ k, k = 22 := ⟨_, rfl⟩
  rw [← hk22] at z30
  have nk22 : ¬ k22 = 0 := by omega
  have HK30 := Lib.hid hk22
  have hP : Try.prog = PD := rfl
  rw [hP] at t3 u3 g3 z3 t4 u4 g4 z4 t22 u22 g22 z22 t30 u30 g30 z30 c9 mixed ⊢
  have HP := Lib.hid hP.symm
  clear hP hk22
  go_wp2_with fail
  go_loopg [3] (n + 1) (fun g s3 wr => ∃ (i : Nat), s3 = .int .i64 i ∧ i ≤ n ∧ i ≤ 33 ∧ n - i < g ∧ Hid (Fr No w wr ∧ ∀ (j : Nat) (q : Ru), j < i → L[j]? = some q → vR q = true))
  case atStart => exact ⟨0, by go_num, by omega, by omega, by omega, Fr.refl _ _, fun j q h => by omega⟩
  case round =>
    obtain ⟨i, rfl, hin, hi33, hig, HR⟩ := hrel
    by_cases hi : i < n
    · have p1 : (0 : Int) ≤ (i : Int) := by omega
      have p2 : (i : Int) < (n : Int) := by omega
      by_cases hs : i ≤ 32
      · have p3 : (i : Int) ≤ 32 := by omega
        obtain ⟨r, hr⟩ : ∃ r, L[i]? = some r := ⟨_, List.getElem?_eq_getElem (by rw [HN.out]; exact hi)⟩
        obtain ⟨b, o, rfl, hb, hcell⟩ := (HR0.out.no HR.out.1).cell hr
        obtain ⟨R, hR, hRs, -⟩ := ru_letter r hb
        have hRk : R.size = k22 := by rw [HK30.out]; exact hRs
        have l1 : Sem.run PD (loadCellsFrom ⟨b, o + i * k22, none⟩ 0 k22 #[]) wr = .ok R wr := by rw [HK30.out, ← hR]; exact (hcell wr (Fr.refl _ _)).1 PD
        have HVR : Hid (∀ w', Calls Try.prog 9 #[.agg R] w' fun e w'' => e = .returned (.bool (vR r)) ∧ Fr No w' w'') := fun w' => by rw [← hR]; exact vr_ref r hb w'
        have HY := Lib.hid hr
        clear hr hcell hR hb hRs
        cases hv : vR r with
        | false =>
          rw [hv] at HVR
          have HVF := Lib.hid hv
          clear hv
          go_wp2_with (first | (go_at_call 9; go_loud (refine (at_prog HP.out (HVR.out _)).mono ?_; rintro e w5 ⟨rfl, hf5⟩)) | fail)
          go_ret
          exact ⟨by rw [vRs_no HY.out HVF.out]; try rfl, HR.out.1.trans hf5⟩
        | true =>
          rw [hv] at HVR
          have HVF := Lib.hid hv
          clear hv
          go_wp2_with (first | (go_at_call 9; go_loud (refine (at_prog HP.out (HVR.out _)).mono ?_; rintro e w5 ⟨rfl, hf5⟩)) | fail)
          go_roundg (n - i)
          case measure => exact hig
          case rel =>
            refine ⟨i + 1, by go_num, by omega, by omega, by omega, HR.out.1.trans hf5, fun j q hj hq => ?_⟩
            by_cases hji : j = i
            · subst hji; rw [HY.out] at hq; cases hq; exact HVF.out
            · exact HR.out.2 j q (by omega) hq
      · have p3 : ¬ (i : Int) ≤ 32 := by omega
        have p4 : ¬ (n : Int) ≤ 32 := by omega
        have HV : Hid (vRs L = false) := by show _ = _; unfold vRs; rw [decide_eq_false (by rw [HN.out]; omega : ¬ L.length ≤ 32)]; rfl
        go_wp2_with fail
        go_ret
        exact ⟨by rw [HV.out]; try rfl, HR.out.1⟩
    · obtain rfl : i = n := by omega
      by_cases hs : i ≤ 32
      · have p3 : (i : Int) ≤ 32 := by omega
        have HV : Hid (vRs L = true) := vRs_yes (by rw [HN.out]; exact hs) (by rw [HN.out]; exact HR.out.2)
        go_wp2_with fail
        go_ret
        exact ⟨by rw [HV.out]; try rfl, HR.out.1⟩
      · have p3 : ¬ (i : Int) ≤ 32 := by omega
        have HV : Hid (vRs L = false) := by show _ = _; unfold vRs; rw [decide_eq_false (by rw [HN.out]; exact hs : ¬ L.length ≤ 32)]; rfl
        go_wp2_with fail
        go_ret
        exact ⟨by rw [HV.out]; try rfl, HR.out.1⟩

set_option maxHeartbeats 4000000 in
set_option maxRecDepth 100000 in
theorem allowa_ref (L : List Ru) (n : Nat) (hn : L.length = n) (hm : n ≤ 100000) (a : Option Addr) (cp : Nat) (c : Bool) (ys : List Nat) (hy : Bytes ys) (port : Int) (w : World) (hr : RowR w a L) :
    Calls Try.prog 21 #[.slice a n cp, .agg (adr c ys).toArray, .int .i64 port] w fun e w' => e = .returned (.bool (alA L c ys port)) ∧ Fr No w w' := by
  obtain ⟨A, hA, -, hAs, -⟩ := adr_letter c ys hy
  have hb1 := heap_alloc_new w (.cells A 26)
  have hF := Fr.alloc No w (.cells A 26)
  obtain ⟨v, hv⟩ : ∃ v, bV (mtA c ys port) kA L = v := ⟨_, rfl⟩
  have HM : Hid (∀ w', Fr No w w' → Calls Try.prog 19 #[.slice a n cp, .agg A, .int .i64 port] w' fun e w'' => e = .returned (.int .i64 v) ∧ Fr No w' w'') := fun w' hf => by
    rw [← hA, ← hv]; exact matcha_ref L n hn hm a cp c ys hy port w' (hr.no hf)
  have HBL : Hid (∀ w', Calls Try.prog 30 #[.agg A] w' fun e w'' => e = .returned (.int .i64 (bIdx c ys)) ∧ Fr No w' w'') := fun w' => by rw [← hA]; exact bidx_ref c ys hy w'
  have HL : Hid (∀ w', Fr No (w.alloc (.cells A 26)) w' → Fr No w w' ∧ Sem.run Try.prog (loadCellsFrom ⟨w.heap.size, 0, none⟩ 0 17 #[]) w' = .ok A w') := fun w' hf => ⟨hF.trans hf, load_block (hf.keep hb1) hAs (fun j v hv => by simpa using hv)⟩
  have HV : Hid (alA L c ys port = (decide (0 ≤ v) && (alAt L v && !(!validA c ys || decide (0 ≤ bIdx c ys))))) := by show _ = _; rw [alA, hv]
  have htwo := bV_two (mtA c ys port) kA L
  rw [hv] at htwo
  have HR0 := Lib.hid hr
  have HN := Lib.hid hn
  rw [hA]
  clear hA hb1 hF hv hr hn
  rcases htwo with rfl | ⟨t, r, rfl, htl, hr, hmr⟩
  · have HV2 : Hid (alA L c ys port = false) := by show _ = _; rw [HV.out]; rfl
    clear HV
    go_enter Try.func21, Try.ntmps21
    have t3 := Try.underlying3
    have u3 := Try.runUnderlying3
    have g3 := Try.isAgg3
    have z3 := Try.sizeOf3
    have t4 := Try.underlying4
    have u4 := Try.runUnderlying4
    have g4 := Try.isAgg4
    have z4 := Try.sizeOf4
    have t22 := Try.underlying22
    have u22 := Try.runUnderlying22
    have g22 := Try.isAgg22
    have z22 := Try.sizeOf22
    have t26 := Try.underlying26
    have u26 := Try.runUnderlying26
    have g26 := Try.isAgg26
    have z26 := Try.sizeOf26
    have t30 := Try.underlying30
    have u30 := Try.runUnderlying30
    have g30 := Try.isAgg30
    have z30 := Try.sizeOf30
    have c19 := Try.call19
    have c30 := Try.call30
    have mixed : Try.prog.follows .mixedOrders = true := by kernel_rfl
    obtain ⟨k24, hk24⟩ : ∃ k, k = 17 := ⟨_, rfl⟩
    rw [← hk24] at z26
    have nk24 : ¬ k24 = 0 := by omega
    have HK26 := Lib.hid hk24
    obtain ⟨k22, hk22⟩ : ∃ k, k = 22 := ⟨_, rfl⟩
    rw [← hk22] at z30
    have nk22 : ¬ k22 = 0 := by omega
    have HK30 := Lib.hid hk22
    have hP : Try.prog = PD := rfl
    rw [hP] at t3 u3 g3 z3 t4 u4 g4 z4 t22 u22 g22 z22 t26 u26 g26 z26 t30 u30 g30 z30 c19 c30 mixed ⊢
    have HP := Lib.hid hP.symm
    clear hP hk24 hk22
    have hAk : A.size = k24 := by rw [HK26.out]; exact hAs
    have hld : Sem.run PD (loadCellsFrom ⟨w.heap.size, 0, none⟩ 0 k24 #[]) (w.alloc (.cells A 26)) = .ok A (w.alloc (.cells A 26)) := by rw [HK26.out]; exact (HL.out _ (Fr.refl _ _)).2
    go_wp2_with (first | (go_at_call 19; go_loud (refine (at_prog HP.out (HM.out _ (HL.out _ (Fr.refl _ _)).1)).mono ?_; rintro e w3 ⟨rfl, hf3⟩)) | fail)
    go_ret
    exact ⟨by rw [HV2.out]; try rfl, (HL.out _ hf3).1⟩
  · obtain ⟨b, o, rfl, hb, hcell⟩ := HR0.out.cell hr
    have hva : validA c ys = true := by
      unfold mtA at hmr
      rw [Bool.and_eq_true] at hmr
      exact (has_iff.1 hmr.2).2.1
    have HV2 : Hid (alA L c ys port = (r.al && !decide (0 ≤ bIdx c ys))) := by show _ = _; rw [HV.out, alAt_nat hr, decide_eq_true (by omega : (0 : Int) ≤ (t : Int)), hva]; rfl
    have HC : Hid (∀ w', Fr No (w.alloc (.cells A 26)) w' → w'.cell? ⟨b, o + t * 22, none⟩ = some (.bool r.al)) := fun w' hf => by have := (hcell w' (HL.out w' hf).1).2 0 (.bool r.al) rfl; exact this
    have p1 : (0 : Int) ≤ (t : Int) := by omega
    have p2 : (t : Int) < (n : Int) := by rw [HN.out] at htl; omega
    generalize r.al = al at HV2 HC
    generalize bIdx c ys = bx at HBL HV2
    clear HV hcell hb hr hmr hva
    cases al
    · have HV3 : Hid (alA L c ys port = false) := by show _ = _; rw [HV2.out]; rfl
      go_enter Try.func21, Try.ntmps21
      have t3 := Try.underlying3
      have u3 := Try.runUnderlying3
      have g3 := Try.isAgg3
      have z3 := Try.sizeOf3
      have t4 := Try.underlying4
      have u4 := Try.runUnderlying4
      have g4 := Try.isAgg4
      have z4 := Try.sizeOf4
      have t22 := Try.underlying22
      have u22 := Try.runUnderlying22
      have g22 := Try.isAgg22
      have z22 := Try.sizeOf22
      have t26 := Try.underlying26
      have u26 := Try.runUnderlying26
      have g26 := Try.isAgg26
      have z26 := Try.sizeOf26
      have t30 := Try.underlying30
      have u30 := Try.runUnderlying30
      have g30 := Try.isAgg30
      have z30 := Try.sizeOf30
      have c19 := Try.call19
      have c30 := Try.call30
      have mixed : Try.prog.follows .mixedOrders = true := by kernel_rfl
      obtain ⟨k24, hk24⟩ : ∃ k, k = 17 := ⟨_, rfl⟩
      rw [← hk24] at z26
      have nk24 : ¬ k24 = 0 := by omega
      have HK26 := Lib.hid hk24
      obtain ⟨k22, hk22⟩ : ∃ k, k = 22 := ⟨_, rfl⟩
      rw [← hk22] at z30
      have nk22 : ¬ k22 = 0 := by omega
      have HK30 := Lib.hid hk22
      have hP : Try.prog = PD := rfl
      rw [hP] at t3 u3 g3 z3 t4 u4 g4 z4 t22 u22 g22 z22 t26 u26 g26 z26 t30 u30 g30 z30 c19 c30 mixed ⊢
      have HP := Lib.hid hP.symm
      clear hP hk24 hk22
      have hAk : A.size = k24 := by rw [HK26.out]; exact hAs
      have hld : Sem.run PD (loadCellsFrom ⟨w.heap.size, 0, none⟩ 0 k24 #[]) (w.alloc (.cells A 26)) = .ok A (w.alloc (.cells A 26)) := by rw [HK26.out]; exact (HL.out _ (Fr.refl _ _)).2
      rw [← HK30.out] at HC
      go_wp2_with (first | (go_at_call 19; go_loud (refine (at_prog HP.out (HM.out _ (HL.out _ (Fr.refl _ _)).1)).mono ?_; rintro e w3 ⟨rfl, hf3⟩; have d1 := HC.out _ hf3)) | fail)
      go_ret
      exact ⟨by rw [HV3.out]; try rfl, (HL.out _ hf3).1⟩
    · have HV3 : Hid (alA L c ys port = decide (bx < 0)) := by
        show _ = _
        rw [HV2.out, Bool.true_and, ← decide_not]
        exact decide_eq_decide.2 (by omega)
      go_enter Try.func21, Try.ntmps21
      have t3 := Try.underlying3
      have u3 := Try.runUnderlying3
      have g3 := Try.isAgg3
      have z3 := Try.sizeOf3
      have t4 := Try.underlying4
      have u4 := Try.runUnderlying4
      have g4 := Try.isAgg4
      have z4 := Try.sizeOf4
      have t22 := Try.underlying22
      have u22 := Try.runUnderlying22
      have g22 := Try.isAgg22
      have z22 := Try.sizeOf22
      have t26 := Try.underlying26
      have u26 := Try.runUnderlying26
      have g26 := Try.isAgg26
      have z26 := Try.sizeOf26
      have t30 := Try.underlying30
      have u30 := Try.runUnderlying30
      have g30 := Try.isAgg30
      have z30 := Try.sizeOf30
      have c19 := Try.call19
      have c30 := Try.call30
      have mixed : Try.prog.follows .mixedOrders = true := by kernel_rfl
      obtain ⟨k24, hk24⟩ : ∃ k, k = 17 := ⟨_, rfl⟩
      rw [← hk24] at z26
      have nk24 : ¬ k24 = 0 := by omega
      have HK26 := Lib.hid hk24
      obtain ⟨k22, hk22⟩ : ∃ k, k = 22 := ⟨_, rfl⟩
      rw [← hk22] at z30
      have nk22 : ¬ k22 = 0 := by omega
      have HK30 := Lib.hid hk22
      have hP : Try.prog = PD := rfl
      rw [hP] at t3 u3 g3 z3 t4 u4 g4 z4 t22 u22 g22 z22 t26 u26 g26 z26 t30 u30 g30 z30 c19 c30 mixed ⊢
      have HP := Lib.hid hP.symm
      clear hP hk24 hk22
      have hAk : A.size = k24 := by rw [HK26.out]; exact hAs
      have hld : Sem.run PD (loadCellsFrom ⟨w.heap.size, 0, none⟩ 0 k24 #[]) (w.alloc (.cells A 26)) = .ok A (w.alloc (.cells A 26)) := by rw [HK26.out]; exact (HL.out _ (Fr.refl _ _)).2
      rw [← HK30.out] at HC
      go_wp2_with (first | (go_at_call 19; go_loud (refine (at_prog HP.out (HM.out _ (HL.out _ (Fr.refl _ _)).1)).mono ?_; rintro e w3 ⟨rfl, hf3⟩; have d1 := HC.out _ hf3; have hld3 : Sem.run PD (loadCellsFrom ⟨w.heap.size, 0, none⟩ 0 k24 #[]) w3 = .ok A w3 := (by rw [HK26.out]; exact (HL.out _ hf3).2))) | (go_at_call 30; go_loud (refine (at_prog HP.out (HBL.out _)).mono ?_; rintro e w4 ⟨rfl, hf4⟩)) | fail)
      go_ret
      exact ⟨by rw [HV3.out]; try rfl, (HL.out _ (hf3.trans hf4)).1⟩

set_option maxHeartbeats 4000000 in
set_option maxRecDepth 100000 in
theorem allown_ref (L : List Ru) (n : Nat) (hn : L.length = n) (hm : n ≤ 100000) (a : Option Addr) (cp : Nat) (nl : List UInt8) (port : Int) (w : World) (hr : RowR w a L) :
    Calls Try.prog 26 #[.slice a n cp, .string (bs nl), .int .i64 port] w fun e w' => e = .returned (.bool (alN L nl port)) ∧ Fr No w w' := by
  obtain ⟨v, hv⟩ : ∃ v, bV (mtN nl port) kN L = v := ⟨_, rfl⟩
  have HM : Hid (∀ w', Fr No w w' → Calls Try.prog 24 #[.slice a n cp, .string (bs nl), .int .i64 port] w' fun e w'' => e = .returned (.int .i64 v) ∧ Fr No w' w'') := fun w' hf => by
    rw [← hv]; exact matchn_ref L n hn hm a cp nl port w' (hr.no hf)
  have HIN := Lib.hid (vname_ref nl)
  have HV : Hid (alN L nl port = (nameV nl && (decide (v < 0) || (match L[v.toNat]? with
    | some r => r.al
    | none => false)))) := by show _ = _; rw [alN, hv]; rfl
  have htwo : v = -1 ∨ ∃ (t : Nat) (r : Ru), v = t ∧ t < L.length ∧ L[t]? = some r ∧ mtN nl port r = true := by rw [← hv]; exact bN_two (mtN nl port) kN L _ (Nat.le_refl _)
  have HR0 := Lib.hid hr
  have HN := Lib.hid hn
  generalize bs nl = sn at HM HIN ⊢
  generalize nameV nl = nv at HIN HV
  clear hv hr hn
  cases nv with
  | false =>
    have HV2 : Hid (alN L nl port = false) := by show _ = _; rw [HV.out]; rfl
    clear HV htwo
    go_enter Try.func26, Try.ntmps26
    have t3 := Try.underlying3
    have u3 := Try.runUnderlying3
    have g3 := Try.isAgg3
    have z3 := Try.sizeOf3
    have t4 := Try.underlying4
    have u4 := Try.runUnderlying4
    have g4 := Try.isAgg4
    have z4 := Try.sizeOf4
    have t9 := Try.underlying9
    have u9 := Try.runUnderlying9
    have g9 := Try.isAgg9
    have z9 := Try.sizeOf9
    have t22 := Try.underlying22
    have u22 := Try.runUnderlying22
    have g22 := Try.isAgg22
    have z22 := Try.sizeOf22
    have t30 := Try.underlying30
    have u30 := Try.runUnderlying30
    have g30 := Try.isAgg30
    have z30 := Try.sizeOf30
    have c34 := Try.call34
    have c24 := Try.call24
    have mixed : Try.prog.follows .mixedOrders = true := by kernel_rfl
    obtain ⟨k22, hk22⟩ : ∃ k, k = 22 := ⟨_, rfl⟩
    rw [← hk22] at z30
    have nk22 : ¬ k22 = 0 := by omega
    have HK30 := Lib.hid hk22
    have hP : Try.prog = PD := rfl
    rw [hP] at t3 u3 g3 z3 t4 u4 g4 z4 t9 u9 g9 z9 t22 u22 g22 z22 t30 u30 g30 z30 c34 c24 mixed ⊢
    have HP := Lib.hid hP.symm
    clear hP hk22
    go_wp2_with (first | (go_at_call 24; go_loud (refine (at_prog HP.out (HM.out _ (Fr.refl _ _))).mono ?_; rintro e w4 ⟨rfl, hf4⟩)) | (go_at_call 34; go_loud (refine (at_prog HP.out (HIN.out _)).mono ?_; rintro e w3 ⟨rfl, hf3⟩)) | fail)
    go_ret
    exact ⟨by rw [HV2.out]; try rfl, hf4.trans hf3⟩
  | true =>
    rcases htwo with rfl | ⟨t, r, rfl, htl, hr, hmr⟩
    · have HV2 : Hid (alN L nl port = true) := by show _ = _; rw [HV.out]; rfl
      clear HV
      go_enter Try.func26, Try.ntmps26
      have t3 := Try.underlying3
      have u3 := Try.runUnderlying3
      have g3 := Try.isAgg3
      have z3 := Try.sizeOf3
      have t4 := Try.underlying4
      have u4 := Try.runUnderlying4
      have g4 := Try.isAgg4
      have z4 := Try.sizeOf4
      have t9 := Try.underlying9
      have u9 := Try.runUnderlying9
      have g9 := Try.isAgg9
      have z9 := Try.sizeOf9
      have t22 := Try.underlying22
      have u22 := Try.runUnderlying22
      have g22 := Try.isAgg22
      have z22 := Try.sizeOf22
      have t30 := Try.underlying30
      have u30 := Try.runUnderlying30
      have g30 := Try.isAgg30
      have z30 := Try.sizeOf30
      have c34 := Try.call34
      have c24 := Try.call24
      have mixed : Try.prog.follows .mixedOrders = true := by kernel_rfl
      obtain ⟨k22, hk22⟩ : ∃ k, k = 22 := ⟨_, rfl⟩
      rw [← hk22] at z30
      have nk22 : ¬ k22 = 0 := by omega
      have HK30 := Lib.hid hk22
      have hP : Try.prog = PD := rfl
      rw [hP] at t3 u3 g3 z3 t4 u4 g4 z4 t9 u9 g9 z9 t22 u22 g22 z22 t30 u30 g30 z30 c34 c24 mixed ⊢
      have HP := Lib.hid hP.symm
      clear hP hk22
      go_wp2_with (first | (go_at_call 24; go_loud (refine (at_prog HP.out (HM.out _ (Fr.refl _ _))).mono ?_; rintro e w4 ⟨rfl, hf4⟩)) | (go_at_call 34; go_loud (refine (at_prog HP.out (HIN.out _)).mono ?_; rintro e w3 ⟨rfl, hf3⟩)) | fail)
      go_ret
      exact ⟨by rw [HV2.out]; try rfl, hf4.trans hf3⟩
    · obtain ⟨b, o, rfl, hb, hcell⟩ := HR0.out.cell hr
      have HV2 : Hid (alN L nl port = r.al) := by show _ = _; rw [HV.out, Int.toNat_natCast, hr, decide_eq_false (by omega : ¬ (t : Int) < 0)]; rfl
      have HC : Hid (∀ w', Fr No w w' → w'.cell? ⟨b, o + t * 22, none⟩ = some (.bool r.al)) := fun w' hf => by have := (hcell w' hf).2 0 (.bool r.al) rfl; exact this
      have p1 : (0 : Int) ≤ (t : Int) := by omega
      have p2 : (t : Int) < (n : Int) := by rw [HN.out] at htl; omega
      have p3 : ¬ (t : Int) < 0 := by omega
      generalize r.al = al at HV2 HC
      clear HV hcell hb hr hmr
      go_enter Try.func26, Try.ntmps26
      have t3 := Try.underlying3
      have u3 := Try.runUnderlying3
      have g3 := Try.isAgg3
      have z3 := Try.sizeOf3
      have t4 := Try.underlying4
      have u4 := Try.runUnderlying4
      have g4 := Try.isAgg4
      have z4 := Try.sizeOf4
      have t9 := Try.underlying9
      have u9 := Try.runUnderlying9
      have g9 := Try.isAgg9
      have z9 := Try.sizeOf9
      have t22 := Try.underlying22
      have u22 := Try.runUnderlying22
      have g22 := Try.isAgg22
      have z22 := Try.sizeOf22
      have t30 := Try.underlying30
      have u30 := Try.runUnderlying30
      have g30 := Try.isAgg30
      have z30 := Try.sizeOf30
      have c34 := Try.call34
      have c24 := Try.call24
      have mixed : Try.prog.follows .mixedOrders = true := by kernel_rfl
      obtain ⟨k22, hk22⟩ : ∃ k, k = 22 := ⟨_, rfl⟩
      rw [← hk22] at z30
      have nk22 : ¬ k22 = 0 := by omega
      have HK30 := Lib.hid hk22
      have hP : Try.prog = PD := rfl
      rw [hP] at t3 u3 g3 z3 t4 u4 g4 z4 t9 u9 g9 z9 t22 u22 g22 z22 t30 u30 g30 z30 c34 c24 mixed ⊢
      have HP := Lib.hid hP.symm
      clear hP hk22
      rw [← HK30.out] at HC
      go_wp2_with (first | (go_at_call 24; go_loud (refine (at_prog HP.out (HM.out _ (Fr.refl _ _))).mono ?_; rintro e w4 ⟨rfl, hf4⟩)) | (go_at_call 34; go_loud (refine (at_prog HP.out (HIN.out _)).mono ?_; rintro e w3 ⟨rfl, hf3⟩; have d1 := HC.out _ (hf4.trans hf3))) | fail)
      go_ret
      exact ⟨by rw [HV2.out]; try rfl, hf4.trans hf3⟩

def alT (L : List Ru) (nl : List UInt8) (b : Bool) (xs : List Nat) (p : Int) : Bool := vT nl b xs p && (if nl = [] then alA L b xs p else alN L nl p)
set_option maxHeartbeats 4000000 in
set_option maxRecDepth 100000 in
theorem allowt_any (n0 : Nat) (w : World) (x : Nat) (L : List Ru) (tb : Nat) (ra : Option Addr) (rc : Nat) (T0 : List (Px × Value)) (X : Nat → Prop) (h : Inc n0 w x L L.length tb ra rc T0 X) (hm : L.length ≤ 32) (nl : List UInt8) (b : Bool) (xs : List Nat) (p : Int) (hx : Bytes xs) :
    Calls Try.prog 28 #[.pointer (some ⟨x, 0, none⟩), .agg (tgt (bs nl) b xs p).toArray] w fun e w' => e = .returned (.bool (alT L nl b xs p)) ∧ Fr No w w' := by
  obtain ⟨T, hT, h0, h1, h18, hs19, hT2, hT1⟩ := tgt_letter (bs nl) b xs p hx
  have HVT : Hid (∀ w', Calls Try.prog 53 #[.agg T] w' fun e w'' => e = .returned (.bool (vT nl b xs p)) ∧ Fr No w' w'') := fun w' => by rw [← hT]; exact valid_t nl b xs p hx w'
  rw [hT]
  clear hT h1
  obtain ⟨A, hA, -, hA17, -⟩ := adr_letter b xs hx
  rw [hA] at hT2
  have hb1 := heap_alloc_new w (.cells T 57)
  have hF := Fr.alloc No w (.cells T 57)
  have HA : Hid (∀ w', Fr No w w' → Calls Try.prog 20 #[.pointer (some ⟨x, 0, none⟩), .agg A, .int .i64 p] w' fun e w'' => e = .returned (.bool (alA L b xs p)) ∧ Fr No w' w'') := fun w' hf => by
    rw [← hA]; exact allowa_any n0 w' x L tb ra rc T0 X (h.no hf) hm b xs hx p
  have HN : Hid (∀ w', Fr No w w' → Calls Try.prog 25 #[.pointer (some ⟨x, 0, none⟩), .string (bs nl), .int .i64 p] w' fun e w'' => e = .returned (.bool (alN L nl p)) ∧ Fr No w' w'') := fun w' hf => allown_any n0 w' x L tb ra rc T0 X (h.no hf) hm nl p
  have HC : Hid (∀ w', Fr No (w.alloc (.cells T 57)) w' → Fr No w w' ∧ w'.cell? ⟨w.heap.size, 0, none⟩ = some (.string (bs nl)) ∧ w'.cell? ⟨w.heap.size, 18, none⟩ = some (.int .i64 p) ∧ (∀ Q : Program, Sem.run Q (loadCellsFrom ⟨w.heap.size, 0, none⟩ 0 19 #[]) w' = .ok T w') ∧ (∀ Q : Program, Sem.run Q (loadCellsFrom ⟨w.heap.size, 1, none⟩ 0 17 #[]) w' = .ok A w')) := fun w' hf => ⟨hF.trans hf, cell_of (hf.keep hb1) h0, cell_of (hf.keep hb1) h18, fun Q => load_block (hf.keep hb1) hs19 (fun j v hv => by simpa using hv), fun Q => load_block (hf.keep hb1) hA17 hT2⟩
  have HV : Hid (alT L nl b xs p = (vT nl b xs p && (if nl = [] then alA L b xs p else alN L nl p))) := rfl
  have hemp := bs_empty nl
  generalize vT nl b xs p = vt at HVT HV
  clear hA hb1 hF hT2 hT1 h0 h18 h
  cases vt with
  | false =>
    have HV2 : Hid (alT L nl b xs p = false) := by show _ = _; rw [HV.out]; rfl
    clear HV hemp
    go_enter Try.func28, Try.ntmps28
    have t3 := Try.underlying3
    have u3 := Try.runUnderlying3
    have g3 := Try.isAgg3
    have z3 := Try.sizeOf3
    have t4 := Try.underlying4
    have u4 := Try.runUnderlying4
    have g4 := Try.isAgg4
    have z4 := Try.sizeOf4
    have t9 := Try.underlying9
    have u9 := Try.runUnderlying9
    have g9 := Try.isAgg9
    have z9 := Try.sizeOf9
    have t26 := Try.underlying26
    have u26 := Try.runUnderlying26
    have g26 := Try.isAgg26
    have z26 := Try.sizeOf26
    have t57 := Try.underlying57
    have u57 := Try.runUnderlying57
    have g57 := Try.isAgg57
    have z57 := Try.sizeOf57
    have c53 := Try.call53
    have c20 := Try.call20
    have c25 := Try.call25
    have mixed : Try.prog.follows .mixedOrders = true := by kernel_rfl
    obtain ⟨k24, hk24⟩ : ∃ k, k = 17 := ⟨_, rfl⟩
    rw [← hk24] at z26
    have nk24 : ¬ k24 = 0 := by omega
    have HK26 := Lib.hid hk24
    obtain ⟨k62, hk62⟩ : ∃ k, k = 19 := ⟨_, rfl⟩
    rw [← hk62] at z57
    have nk62 : ¬ k62 = 0 := by omega
    have HK57 := Lib.hid hk62
    have hP : Try.prog = PD := rfl
    rw [hP] at t3 u3 g3 z3 t4 u4 g4 z4 t9 u9 g9 z9 t26 u26 g26 z26 t57 u57 g57 z57 c53 c20 c25 mixed ⊢
    have HP := Lib.hid hP.symm
    clear hP hk24 hk62
    have hTk : T.size = k62 := by rw [HK57.out]; exact hs19
    have hAk : A.size = k24 := by rw [HK26.out]; exact hA17
    obtain ⟨g0, g1, g2, g3', g4'⟩ := HC.out _ (Fr.refl _ _)
    have g3 := g3' PD
    have g4 := g4' PD
    rw [← HK57.out] at g3
    rw [← HK26.out] at g4
    clear g0 g3' g4' 
    go_wp2_with (first | (go_at_call 53; go_loud (refine (at_prog HP.out (HVT.out _)).mono ?_; rintro e w3 ⟨rfl, hf3⟩)) | fail)
    go_ret
    exact ⟨by rw [HV2.out]; try rfl, (HC.out _ hf3).1⟩
  | true =>
    by_cases hnl : nl = []
    · have HV2 : Hid (alT L nl b xs p = alA L b xs p) := by show _ = _; rw [HV.out, if_pos hnl]; rfl
      rw [decide_eq_true hnl] at hemp
      generalize bs nl = sn at HN HC hemp
      clear HV hnl
      go_enter Try.func28, Try.ntmps28
      have t3 := Try.underlying3
      have u3 := Try.runUnderlying3
      have g3 := Try.isAgg3
      have z3 := Try.sizeOf3
      have t4 := Try.underlying4
      have u4 := Try.runUnderlying4
      have g4 := Try.isAgg4
      have z4 := Try.sizeOf4
      have t9 := Try.underlying9
      have u9 := Try.runUnderlying9
      have g9 := Try.isAgg9
      have z9 := Try.sizeOf9
      have t26 := Try.underlying26
      have u26 := Try.runUnderlying26
      have g26 := Try.isAgg26
      have z26 := Try.sizeOf26
      have t57 := Try.underlying57
      have u57 := Try.runUnderlying57
      have g57 := Try.isAgg57
      have z57 := Try.sizeOf57
      have c53 := Try.call53
      have c20 := Try.call20
      have c25 := Try.call25
      have mixed : Try.prog.follows .mixedOrders = true := by kernel_rfl
      obtain ⟨k24, hk24⟩ : ∃ k, k = 17 := ⟨_, rfl⟩
      rw [← hk24] at z26
      have nk24 : ¬ k24 = 0 := by omega
      have HK26 := Lib.hid hk24
      obtain ⟨k62, hk62⟩ : ∃ k, k = 19 := ⟨_, rfl⟩
      rw [← hk62] at z57
      have nk62 : ¬ k62 = 0 := by omega
      have HK57 := Lib.hid hk62
      have hP : Try.prog = PD := rfl
      rw [hP] at t3 u3 g3 z3 t4 u4 g4 z4 t9 u9 g9 z9 t26 u26 g26 z26 t57 u57 g57 z57 c53 c20 c25 mixed ⊢
      have HP := Lib.hid hP.symm
      clear hP hk24 hk62
      have hTk : T.size = k62 := by rw [HK57.out]; exact hs19
      have hAk : A.size = k24 := by rw [HK26.out]; exact hA17
      obtain ⟨g0, g1, g2, g3', g4'⟩ := HC.out _ (Fr.refl _ _)
      have g3 := g3' PD
      have g4 := g4' PD
      rw [← HK57.out] at g3
      rw [← HK26.out] at g4
      clear g0 g3' g4' 
      go_wp2_with (first | (go_at_call 53; go_loud (refine (at_prog HP.out (HVT.out _)).mono ?_; rintro e w3 ⟨rfl, hf3⟩; obtain ⟨e0, e1, e2, -, e4'⟩ := HC.out _ hf3; have e4 := e4' PD; rw [← HK26.out] at e4; clear e4')) | (go_at_call 20; go_loud (refine (at_prog HP.out (HA.out _ e0)).mono ?_; rintro e w4 ⟨rfl, hf4⟩)) | fail)
      go_ret
      exact ⟨by rw [HV2.out]; try rfl, e0.trans hf4⟩
    · have HV2 : Hid (alT L nl b xs p = alN L nl p) := by show _ = _; rw [HV.out, if_neg hnl]; rfl
      rw [decide_eq_false hnl] at hemp
      generalize bs nl = sn at HN HC hemp
      clear HV hnl
      go_enter Try.func28, Try.ntmps28
      have t3 := Try.underlying3
      have u3 := Try.runUnderlying3
      have g3 := Try.isAgg3
      have z3 := Try.sizeOf3
      have t4 := Try.underlying4
      have u4 := Try.runUnderlying4
      have g4 := Try.isAgg4
      have z4 := Try.sizeOf4
      have t9 := Try.underlying9
      have u9 := Try.runUnderlying9
      have g9 := Try.isAgg9
      have z9 := Try.sizeOf9
      have t26 := Try.underlying26
      have u26 := Try.runUnderlying26
      have g26 := Try.isAgg26
      have z26 := Try.sizeOf26
      have t57 := Try.underlying57
      have u57 := Try.runUnderlying57
      have g57 := Try.isAgg57
      have z57 := Try.sizeOf57
      have c53 := Try.call53
      have c20 := Try.call20
      have c25 := Try.call25
      have mixed : Try.prog.follows .mixedOrders = true := by kernel_rfl
      obtain ⟨k24, hk24⟩ : ∃ k, k = 17 := ⟨_, rfl⟩
      rw [← hk24] at z26
      have nk24 : ¬ k24 = 0 := by omega
      have HK26 := Lib.hid hk24
      obtain ⟨k62, hk62⟩ : ∃ k, k = 19 := ⟨_, rfl⟩
      rw [← hk62] at z57
      have nk62 : ¬ k62 = 0 := by omega
      have HK57 := Lib.hid hk62
      have hP : Try.prog = PD := rfl
      rw [hP] at t3 u3 g3 z3 t4 u4 g4 z4 t9 u9 g9 z9 t26 u26 g26 z26 t57 u57 g57 z57 c53 c20 c25 mixed ⊢
      have HP := Lib.hid hP.symm
      clear hP hk24 hk62
      have hTk : T.size = k62 := by rw [HK57.out]; exact hs19
      have hAk : A.size = k24 := by rw [HK26.out]; exact hA17
      obtain ⟨g0, g1, g2, g3', g4'⟩ := HC.out _ (Fr.refl _ _)
      have g3 := g3' PD
      have g4 := g4' PD
      rw [← HK57.out] at g3
      rw [← HK26.out] at g4
      clear g0 g3' g4' 
      go_wp2_with (first | (go_at_call 53; go_loud (refine (at_prog HP.out (HVT.out _)).mono ?_; rintro e w3 ⟨rfl, hf3⟩; obtain ⟨e0, e1, e2, -, e4'⟩ := HC.out _ hf3; have e4 := e4' PD; rw [← HK26.out] at e4; clear e4')) | (go_at_call 25; go_loud (refine (at_prog HP.out (HN.out _ e0)).mono ?_; rintro e w4 ⟨rfl, hf4⟩)) | fail)
      go_ret
      exact ⟨by rw [HV2.out]; try rfl, e0.trans hf4⟩
set_option maxHeartbeats 4000000 in
set_option maxRecDepth 100000 in
theorem allowt_ref (w : World) (L : List Ru) (n : Nat) (hn : L.length = n) (hm : n ≤ 100000) (a : Option Addr) (cp : Nat) (h : RowR w a L) (nl : List UInt8) (b : Bool) (xs : List Nat) (p : Int) (hx : Bytes xs) :
    Calls Try.prog 29 #[.slice a n cp, .agg (tgt (bs nl) b xs p).toArray] w fun e w' => e = .returned (.bool (alT L nl b xs p)) ∧ Fr No w w' := by
  obtain ⟨T, hT, h0, h1, h18, hs19, hT2, hT1⟩ := tgt_letter (bs nl) b xs p hx
  have HVT : Hid (∀ w', Calls Try.prog 54 #[.agg T] w' fun e w'' => e = .returned (.bool (vT nl b xs p)) ∧ Fr No w' w'') := fun w' => by rw [← hT]; exact valid_tref nl b xs p hx w'
  rw [hT]
  clear hT h1
  obtain ⟨A, hA, -, hA17, -⟩ := adr_letter b xs hx
  rw [hA] at hT2
  have hb1 := heap_alloc_new w (.cells T 57)
  have hF := Fr.alloc No w (.cells T 57)
  have HA : Hid (∀ w', Fr No w w' → Calls Try.prog 21 #[.slice a n cp, .agg A, .int .i64 p] w' fun e w'' => e = .returned (.bool (alA L b xs p)) ∧ Fr No w' w'') := fun w' hf => by
    rw [← hA]; exact allowa_ref L n hn hm a cp b xs hx p w' (h.no hf)
  have HN : Hid (∀ w', Fr No w w' → Calls Try.prog 26 #[.slice a n cp, .string (bs nl), .int .i64 p] w' fun e w'' => e = .returned (.bool (alN L nl p)) ∧ Fr No w' w'') := fun w' hf => allown_ref L n hn hm a cp nl p w' (h.no hf)
  have HC : Hid (∀ w', Fr No (w.alloc (.cells T 57)) w' → Fr No w w' ∧ w'.cell? ⟨w.heap.size, 0, none⟩ = some (.string (bs nl)) ∧ w'.cell? ⟨w.heap.size, 18, none⟩ = some (.int .i64 p) ∧ (∀ Q : Program, Sem.run Q (loadCellsFrom ⟨w.heap.size, 0, none⟩ 0 19 #[]) w' = .ok T w') ∧ (∀ Q : Program, Sem.run Q (loadCellsFrom ⟨w.heap.size, 1, none⟩ 0 17 #[]) w' = .ok A w')) := fun w' hf => ⟨hF.trans hf, cell_of (hf.keep hb1) h0, cell_of (hf.keep hb1) h18, fun Q => load_block (hf.keep hb1) hs19 (fun j v hv => by simpa using hv), fun Q => load_block (hf.keep hb1) hA17 hT2⟩
  have HV : Hid (alT L nl b xs p = (vT nl b xs p && (if nl = [] then alA L b xs p else alN L nl p))) := rfl
  have hemp := bs_empty nl
  generalize vT nl b xs p = vt at HVT HV
  clear hA hb1 hF hT2 hT1 h0 h18 h hn
  cases vt with
  | false =>
    have HV2 : Hid (alT L nl b xs p = false) := by show _ = _; rw [HV.out]; rfl
    clear HV hemp
    go_enter Try.func29, Try.ntmps29
    have t3 := Try.underlying3
    have u3 := Try.runUnderlying3
    have g3 := Try.isAgg3
    have z3 := Try.sizeOf3
    have t4 := Try.underlying4
    have u4 := Try.runUnderlying4
    have g4 := Try.isAgg4
    have z4 := Try.sizeOf4
    have t9 := Try.underlying9
    have u9 := Try.runUnderlying9
    have g9 := Try.isAgg9
    have z9 := Try.sizeOf9
    have t26 := Try.underlying26
    have u26 := Try.runUnderlying26
    have g26 := Try.isAgg26
    have z26 := Try.sizeOf26
    have t57 := Try.underlying57
    have u57 := Try.runUnderlying57
    have g57 := Try.isAgg57
    have z57 := Try.sizeOf57
    have c54 := Try.call54
    have c21 := Try.call21
    have c26 := Try.call26
    have mixed : Try.prog.follows .mixedOrders = true := by kernel_rfl
    obtain ⟨k24, hk24⟩ : ∃ k, k = 17 := ⟨_, rfl⟩
    rw [← hk24] at z26
    have nk24 : ¬ k24 = 0 := by omega
    have HK26 := Lib.hid hk24
    obtain ⟨k62, hk62⟩ : ∃ k, k = 19 := ⟨_, rfl⟩
    rw [← hk62] at z57
    have nk62 : ¬ k62 = 0 := by omega
    have HK57 := Lib.hid hk62
    have hP : Try.prog = PD := rfl
    rw [hP] at t3 u3 g3 z3 t4 u4 g4 z4 t9 u9 g9 z9 t26 u26 g26 z26 t57 u57 g57 z57 c54 c21 c26 mixed ⊢
    have HP := Lib.hid hP.symm
    clear hP hk24 hk62
    have hTk : T.size = k62 := by rw [HK57.out]; exact hs19
    have hAk : A.size = k24 := by rw [HK26.out]; exact hA17
    obtain ⟨g0, g1, g2, g3', g4'⟩ := HC.out _ (Fr.refl _ _)
    have g3 := g3' PD
    have g4 := g4' PD
    rw [← HK57.out] at g3
    rw [← HK26.out] at g4
    clear g0 g3' g4' 
    go_wp2_with (first | (go_at_call 54; go_loud (refine (at_prog HP.out (HVT.out _)).mono ?_; rintro e w3 ⟨rfl, hf3⟩)) | fail)
    go_ret
    exact ⟨by rw [HV2.out]; try rfl, (HC.out _ hf3).1⟩
  | true =>
    by_cases hnl : nl = []
    · have HV2 : Hid (alT L nl b xs p = alA L b xs p) := by show _ = _; rw [HV.out, if_pos hnl]; rfl
      rw [decide_eq_true hnl] at hemp
      generalize bs nl = sn at HN HC hemp
      clear HV hnl
      go_enter Try.func29, Try.ntmps29
      have t3 := Try.underlying3
      have u3 := Try.runUnderlying3
      have g3 := Try.isAgg3
      have z3 := Try.sizeOf3
      have t4 := Try.underlying4
      have u4 := Try.runUnderlying4
      have g4 := Try.isAgg4
      have z4 := Try.sizeOf4
      have t9 := Try.underlying9
      have u9 := Try.runUnderlying9
      have g9 := Try.isAgg9
      have z9 := Try.sizeOf9
      have t26 := Try.underlying26
      have u26 := Try.runUnderlying26
      have g26 := Try.isAgg26
      have z26 := Try.sizeOf26
      have t57 := Try.underlying57
      have u57 := Try.runUnderlying57
      have g57 := Try.isAgg57
      have z57 := Try.sizeOf57
      have c54 := Try.call54
      have c21 := Try.call21
      have c26 := Try.call26
      have mixed : Try.prog.follows .mixedOrders = true := by kernel_rfl
      obtain ⟨k24, hk24⟩ : ∃ k, k = 17 := ⟨_, rfl⟩
      rw [← hk24] at z26
      have nk24 : ¬ k24 = 0 := by omega
      have HK26 := Lib.hid hk24
      obtain ⟨k62, hk62⟩ : ∃ k, k = 19 := ⟨_, rfl⟩
      rw [← hk62] at z57
      have nk62 : ¬ k62 = 0 := by omega
      have HK57 := Lib.hid hk62
      have hP : Try.prog = PD := rfl
      rw [hP] at t3 u3 g3 z3 t4 u4 g4 z4 t9 u9 g9 z9 t26 u26 g26 z26 t57 u57 g57 z57 c54 c21 c26 mixed ⊢
      have HP := Lib.hid hP.symm
      clear hP hk24 hk62
      have hTk : T.size = k62 := by rw [HK57.out]; exact hs19
      have hAk : A.size = k24 := by rw [HK26.out]; exact hA17
      obtain ⟨g0, g1, g2, g3', g4'⟩ := HC.out _ (Fr.refl _ _)
      have g3 := g3' PD
      have g4 := g4' PD
      rw [← HK57.out] at g3
      rw [← HK26.out] at g4
      clear g0 g3' g4' 
      go_wp2_with (first | (go_at_call 54; go_loud (refine (at_prog HP.out (HVT.out _)).mono ?_; rintro e w3 ⟨rfl, hf3⟩; obtain ⟨e0, e1, e2, -, e4'⟩ := HC.out _ hf3; have e4 := e4' PD; rw [← HK26.out] at e4; clear e4')) | (go_at_call 21; go_loud (refine (at_prog HP.out (HA.out _ e0)).mono ?_; rintro e w4 ⟨rfl, hf4⟩)) | fail)
      go_ret
      exact ⟨by rw [HV2.out]; try rfl, e0.trans hf4⟩
    · have HV2 : Hid (alT L nl b xs p = alN L nl p) := by show _ = _; rw [HV.out, if_neg hnl]; rfl
      rw [decide_eq_false hnl] at hemp
      generalize bs nl = sn at HN HC hemp
      clear HV hnl
      go_enter Try.func29, Try.ntmps29
      have t3 := Try.underlying3
      have u3 := Try.runUnderlying3
      have g3 := Try.isAgg3
      have z3 := Try.sizeOf3
      have t4 := Try.underlying4
      have u4 := Try.runUnderlying4
      have g4 := Try.isAgg4
      have z4 := Try.sizeOf4
      have t9 := Try.underlying9
      have u9 := Try.runUnderlying9
      have g9 := Try.isAgg9
      have z9 := Try.sizeOf9
      have t26 := Try.underlying26
      have u26 := Try.runUnderlying26
      have g26 := Try.isAgg26
      have z26 := Try.sizeOf26
      have t57 := Try.underlying57
      have u57 := Try.runUnderlying57
      have g57 := Try.isAgg57
      have z57 := Try.sizeOf57
      have c54 := Try.call54
      have c21 := Try.call21
      have c26 := Try.call26
      have mixed : Try.prog.follows .mixedOrders = true := by kernel_rfl
      obtain ⟨k24, hk24⟩ : ∃ k, k = 17 := ⟨_, rfl⟩
      rw [← hk24] at z26
      have nk24 : ¬ k24 = 0 := by omega
      have HK26 := Lib.hid hk24
      obtain ⟨k62, hk62⟩ : ∃ k, k = 19 := ⟨_, rfl⟩
      rw [← hk62] at z57
      have nk62 : ¬ k62 = 0 := by omega
      have HK57 := Lib.hid hk62
      have hP : Try.prog = PD := rfl
      rw [hP] at t3 u3 g3 z3 t4 u4 g4 z4 t9 u9 g9 z9 t26 u26 g26 z26 t57 u57 g57 z57 c54 c21 c26 mixed ⊢
      have HP := Lib.hid hP.symm
      clear hP hk24 hk62
      have hTk : T.size = k62 := by rw [HK57.out]; exact hs19
      have hAk : A.size = k24 := by rw [HK26.out]; exact hA17
      obtain ⟨g0, g1, g2, g3', g4'⟩ := HC.out _ (Fr.refl _ _)
      have g3 := g3' PD
      have g4 := g4' PD
      rw [← HK57.out] at g3
      rw [← HK26.out] at g4
      clear g0 g3' g4' 
      go_wp2_with (first | (go_at_call 54; go_loud (refine (at_prog HP.out (HVT.out _)).mono ?_; rintro e w3 ⟨rfl, hf3⟩; obtain ⟨e0, e1, e2, -, e4'⟩ := HC.out _ hf3; have e4 := e4' PD; rw [← HK26.out] at e4; clear e4')) | (go_at_call 26; go_loud (refine (at_prog HP.out (HN.out _ e0)).mono ?_; rintro e w4 ⟨rfl, hf4⟩)) | fail)
      go_ret
      exact ⟨by rw [HV2.out]; try rfl, e0.trans hf4⟩
end Go.Proofs.Ytnadendhboiliaa
