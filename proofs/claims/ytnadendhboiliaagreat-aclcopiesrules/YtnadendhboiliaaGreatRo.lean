/-
  CONTRACTS of the reference's ValidRules, AllowsAddr, AllowsName and AllowsTarget and of package acl's AllowsTarget, over this seat's translation: what each call returns.
  Conditions: the rules, or the list, lie in memory; the argument is an address, or a target.
-/
import Derived.Test.YtnadendhboiliaaGreatRn
import Derived.Test.YtnadendhboiliaaGreatHt
namespace Go.Proofs.YtnadendhboiliaaGreat
open Go.ChangeShapes Go.WideShapes Go.ChangeAt Go.RowKit
set_option linter.unusedVariables false

set_option maxHeartbeats 4000000 in
set_option maxRecDepth 100000 in
theorem allowa_ref (L : List Ru) (n : Nat) (hn : L.length = n) (hm : n ≤ 100000) (a : Option Addr) (cp : Nat) (c : Bool) (ys : List Nat) (hy : Bytes ys) (port : Int) (w : World) (hr : RowR w a L) :
    Calls Tryz.prog 13 #[.slice a n cp, .agg (adr c ys).toArray, .int .i64 port] w fun e w' => e = .returned (.bool (alA L c ys port)) ∧ Fr No w w' := by
  obtain ⟨A, hA, -, hAs, -⟩ := adr_letter c ys hy
  have hb1 := heap_alloc_new w (.cells A 25)
  have hF := Fr.alloc No w (.cells A 25)
  obtain ⟨v, hv⟩ : ∃ v, bV (mtA c ys port) kA L = v := ⟨_, rfl⟩
  have HM : Hid (∀ w', Fr No w w' → Calls Tryz.prog 32 #[.slice a n cp, .agg A, .int .i64 port] w' fun e w'' => e = .returned (.int .i64 v) ∧ Fr No w' w'') := fun w' hf => by
    rw [← hA, ← hv]; exact matcha_ref L n hn hm a cp c ys hy port w' (hr.no hf)
  have HBL : Hid (∀ w', Calls Tryz.prog 33 #[.agg A] w' fun e w'' => e = .returned (.int .i64 (bIdx c ys)) ∧ Fr No w' w'') := fun w' => by rw [← hA]; exact bidx_ref c ys hy w'
  have HL : Hid (∀ w', Fr No (w.alloc (.cells A 25)) w' → Fr No w w' ∧ Sem.run Tryz.prog (loadCellsFrom ⟨w.heap.size, 0, none⟩ 0 17 #[]) w' = .ok A w') := fun w' hf => ⟨hF.trans hf, load_block (hf.keep hb1) hAs (fun j v hv => by simpa using hv)⟩
  have HV : Hid (alA L c ys port = (decide (0 ≤ v) && (alAt L v && !(!validA c ys || decide (0 ≤ bIdx c ys))))) := by show _ = _; rw [alA, hv]
  have htwo := bV_two (mtA c ys port) kA L
  rw [hv] at htwo
  have HR0 := Lib.hid hr
  have HN := Lib.hid hn
  rw [hA]
  clear hA hb1 hF hv hr hn
  rcases htwo with rfl | ⟨t, r, rfl, htl, hr, hmr⟩
  · have HV2 : Hid (alA L c ys port = false) := by show _ = _; rw [HV.out]; rfl
    clear HV
    go_enter Tryz.func13, Tryz.ntmps13
    have t3 := Tryz.underlying3
    have u3 := Tryz.runUnderlying3
    have g3 := Tryz.isAgg3
    have z3 := Tryz.sizeOf3
    have t4 := Tryz.underlying4
    have u4 := Tryz.runUnderlying4
    have g4 := Tryz.isAgg4
    have z4 := Tryz.sizeOf4
    have t22 := Tryz.underlying22
    have u22 := Tryz.runUnderlying22
    have g22 := Tryz.isAgg22
    have z22 := Tryz.sizeOf22
    have t25 := Tryz.underlying25
    have u25 := Tryz.runUnderlying25
    have g25 := Tryz.isAgg25
    have z25 := Tryz.sizeOf25
    have t31 := Tryz.underlying31
    have u31 := Tryz.runUnderlying31
    have g31 := Tryz.isAgg31
    have z31 := Tryz.sizeOf31
    have c32 := Tryz.call32
    have c33 := Tryz.call33
    have mixed : Tryz.prog.follows .mixedOrders = true := by kernel_rfl
    obtain ⟨k24, hk24⟩ : ∃ k, k = 17 := ⟨_, rfl⟩
    rw [← hk24] at z25
    have nk24 : ¬ k24 = 0 := by omega
    have HK25 := Lib.hid hk24
    obtain ⟨k22, hk22⟩ : ∃ k, k = 22 := ⟨_, rfl⟩
    rw [← hk22] at z31
    have nk22 : ¬ k22 = 0 := by omega
    have HK31 := Lib.hid hk22
    have hP : Tryz.prog = PD := rfl
    rw [hP] at t3 u3 g3 z3 t4 u4 g4 z4 t22 u22 g22 z22 t25 u25 g25 z25 t31 u31 g31 z31 c32 c33 mixed ⊢
    have HP := Lib.hid hP.symm
    clear hP hk24 hk22
    have hAk : A.size = k24 := by rw [HK25.out]; exact hAs
    have hld : Sem.run PD (loadCellsFrom ⟨w.heap.size, 0, none⟩ 0 k24 #[]) (w.alloc (.cells A 25)) = .ok A (w.alloc (.cells A 25)) := by rw [HK25.out]; exact (HL.out _ (Fr.refl _ _)).2
    go_wp2_with (first | (go_at_call 32; go_loud (refine (at_prog HP.out (HM.out _ (HL.out _ (Fr.refl _ _)).1)).mono ?_; rintro e w3 ⟨rfl, hf3⟩)) | fail)
    go_ret
    exact ⟨by rw [HV2.out]; try rfl, (HL.out _ hf3).1⟩
  · obtain ⟨b, o, rfl, hb, hcell⟩ := HR0.out.cell hr
    have hva : validA c ys = true := by
      unfold mtA at hmr
      rw [Bool.and_eq_true] at hmr
      exact (has_iff.1 hmr.2).2.1
    have HV2 : Hid (alA L c ys port = (r.al && !decide (0 ≤ bIdx c ys))) := by show _ = _; rw [HV.out, alAt_nat hr, decide_eq_true (by omega : (0 : Int) ≤ (t : Int)), hva]; rfl
    have HC : Hid (∀ w', Fr No (w.alloc (.cells A 25)) w' → w'.cell? ⟨b, o + t * 22, none⟩ = some (.bool r.al)) := fun w' hf => by have := (hcell w' (HL.out w' hf).1).2 0 (.bool r.al) rfl; exact this
    have p1 : (0 : Int) ≤ (t : Int) := by omega
    have p2 : (t : Int) < (n : Int) := by rw [HN.out] at htl; omega
    generalize r.al = al at HV2 HC
    generalize bIdx c ys = bx at HBL HV2
    clear HV hcell hb hr hmr hva
    cases al
    · have HV3 : Hid (alA L c ys port = false) := by show _ = _; rw [HV2.out]; rfl
      go_enter Tryz.func13, Tryz.ntmps13
      have t3 := Tryz.underlying3
      have u3 := Tryz.runUnderlying3
      have g3 := Tryz.isAgg3
      have z3 := Tryz.sizeOf3
      have t4 := Tryz.underlying4
      have u4 := Tryz.runUnderlying4
      have g4 := Tryz.isAgg4
      have z4 := Tryz.sizeOf4
      have t22 := Tryz.underlying22
      have u22 := Tryz.runUnderlying22
      have g22 := Tryz.isAgg22
      have z22 := Tryz.sizeOf22
      have t25 := Tryz.underlying25
      have u25 := Tryz.runUnderlying25
      have g25 := Tryz.isAgg25
      have z25 := Tryz.sizeOf25
      have t31 := Tryz.underlying31
      have u31 := Tryz.runUnderlying31
      have g31 := Tryz.isAgg31
      have z31 := Tryz.sizeOf31
      have c32 := Tryz.call32
      have c33 := Tryz.call33
      have mixed : Tryz.prog.follows .mixedOrders = true := by kernel_rfl
      obtain ⟨k24, hk24⟩ : ∃ k, k = 17 := ⟨_, rfl⟩
      rw [← hk24] at z25
      have nk24 : ¬ k24 = 0 := by omega
      have HK25 := Lib.hid hk24
      obtain ⟨k22, hk22⟩ : ∃ k, k = 22 := ⟨_, rfl⟩
      rw [← hk22] at z31
      have nk22 : ¬ k22 = 0 := by omega
      have HK31 := Lib.hid hk22
      have hP : Tryz.prog = PD := rfl
      rw [hP] at t3 u3 g3 z3 t4 u4 g4 z4 t22 u22 g22 z22 t25 u25 g25 z25 t31 u31 g31 z31 c32 c33 mixed ⊢
      have HP := Lib.hid hP.symm
      clear hP hk24 hk22
      have hAk : A.size = k24 := by rw [HK25.out]; exact hAs
      have hld : Sem.run PD (loadCellsFrom ⟨w.heap.size, 0, none⟩ 0 k24 #[]) (w.alloc (.cells A 25)) = .ok A (w.alloc (.cells A 25)) := by rw [HK25.out]; exact (HL.out _ (Fr.refl _ _)).2
      rw [← HK31.out] at HC
      go_wp2_with (first | (go_at_call 32; go_loud (refine (at_prog HP.out (HM.out _ (HL.out _ (Fr.refl _ _)).1)).mono ?_; rintro e w3 ⟨rfl, hf3⟩; have d1 := HC.out _ hf3)) | fail)
      go_ret
      exact ⟨by rw [HV3.out]; try rfl, (HL.out _ hf3).1⟩
    · have HV3 : Hid (alA L c ys port = decide (bx < 0)) := by
        show _ = _
        rw [HV2.out, Bool.true_and, ← decide_not]
        exact decide_eq_decide.2 (by omega)
      go_enter Tryz.func13, Tryz.ntmps13
      have t3 := Tryz.underlying3
      have u3 := Tryz.runUnderlying3
      have g3 := Tryz.isAgg3
      have z3 := Tryz.sizeOf3
      have t4 := Tryz.underlying4
      have u4 := Tryz.runUnderlying4
      have g4 := Tryz.isAgg4
      have z4 := Tryz.sizeOf4
      have t22 := Tryz.underlying22
      have u22 := Tryz.runUnderlying22
      have g22 := Tryz.isAgg22
      have z22 := Tryz.sizeOf22
      have t25 := Tryz.underlying25
      have u25 := Tryz.runUnderlying25
      have g25 := Tryz.isAgg25
      have z25 := Tryz.sizeOf25
      have t31 := Tryz.underlying31
      have u31 := Tryz.runUnderlying31
      have g31 := Tryz.isAgg31
      have z31 := Tryz.sizeOf31
      have c32 := Tryz.call32
      have c33 := Tryz.call33
      have mixed : Tryz.prog.follows .mixedOrders = true := by kernel_rfl
      obtain ⟨k24, hk24⟩ : ∃ k, k = 17 := ⟨_, rfl⟩
      rw [← hk24] at z25
      have nk24 : ¬ k24 = 0 := by omega
      have HK25 := Lib.hid hk24
      obtain ⟨k22, hk22⟩ : ∃ k, k = 22 := ⟨_, rfl⟩
      rw [← hk22] at z31
      have nk22 : ¬ k22 = 0 := by omega
      have HK31 := Lib.hid hk22
      have hP : Tryz.prog = PD := rfl
      rw [hP] at t3 u3 g3 z3 t4 u4 g4 z4 t22 u22 g22 z22 t25 u25 g25 z25 t31 u31 g31 z31 c32 c33 mixed ⊢
      have HP := Lib.hid hP.symm
      clear hP hk24 hk22
      have hAk : A.size = k24 := by rw [HK25.out]; exact hAs
      have hld : Sem.run PD (loadCellsFrom ⟨w.heap.size, 0, none⟩ 0 k24 #[]) (w.alloc (.cells A 25)) = .ok A (w.alloc (.cells A 25)) := by rw [HK25.out]; exact (HL.out _ (Fr.refl _ _)).2
      rw [← HK31.out] at HC
      go_wp2_with (first | (go_at_call 32; go_loud (refine (at_prog HP.out (HM.out _ (HL.out _ (Fr.refl _ _)).1)).mono ?_; rintro e w3 ⟨rfl, hf3⟩; have d1 := HC.out _ hf3; have hld3 : Sem.run PD (loadCellsFrom ⟨w.heap.size, 0, none⟩ 0 k24 #[]) w3 = .ok A w3 := (by rw [HK25.out]; exact (HL.out _ hf3).2))) | (go_at_call 33; go_loud (refine (at_prog HP.out (HBL.out _)).mono ?_; rintro e w4 ⟨rfl, hf4⟩)) | fail)
      go_ret
      exact ⟨by rw [HV3.out]; try rfl, (HL.out _ (hf3.trans hf4)).1⟩

set_option maxHeartbeats 4000000 in
set_option maxRecDepth 100000 in
theorem allown_ref (L : List Ru) (n : Nat) (hn : L.length = n) (hm : n ≤ 100000) (a : Option Addr) (cp : Nat) (nl : List UInt8) (port : Int) (w : World) (hr : RowR w a L) :
    Calls Tryz.prog 16 #[.slice a n cp, .string (bs nl), .int .i64 port] w fun e w' => e = .returned (.bool (alN L nl port)) ∧ Fr No w w' := by
  obtain ⟨v, hv⟩ : ∃ v, bV (mtN nl port) kN L = v := ⟨_, rfl⟩
  have HM : Hid (∀ w', Fr No w w' → Calls Tryz.prog 35 #[.slice a n cp, .string (bs nl), .int .i64 port] w' fun e w'' => e = .returned (.int .i64 v) ∧ Fr No w' w'') := fun w' hf => by
    rw [← hv]; exact matchn_ref L n hn hm a cp nl port w' (hr.no hf)
  have HIN := Lib.hid (vname_ref nl)
  have HV : Hid (alN L nl port = (nameV nl && (decide (v < 0) || (match L[v.toNat]? with
    | some r => r.al
    | none => false)))) := by show _ = _; rw [alN, hv]; rfl
  have htwo : v = -1 ∨ ∃ (t : Nat) (r : Ru), v = t ∧ t < L.length ∧ L[t]? = some r ∧ mtN nl port r = true := by rw [← hv]; exact bN_two (mtN nl port) kN L _ (Nat.le_refl _)
  have HR0 := Lib.hid hr
  have HN := Lib.hid hn
  generalize bs nl = sn at HM HIN ⊢
  generalize nameV nl = nv at HIN HV
  clear hv hr hn
  cases nv with
  | false =>
    have HV2 : Hid (alN L nl port = false) := by show _ = _; rw [HV.out]; rfl
    clear HV htwo
    go_enter Tryz.func16, Tryz.ntmps16
    have t3 := Tryz.underlying3
    have u3 := Tryz.runUnderlying3
    have g3 := Tryz.isAgg3
    have z3 := Tryz.sizeOf3
    have t4 := Tryz.underlying4
    have u4 := Tryz.runUnderlying4
    have g4 := Tryz.isAgg4
    have z4 := Tryz.sizeOf4
    have t9 := Tryz.underlying9
    have u9 := Tryz.runUnderlying9
    have g9 := Tryz.isAgg9
    have z9 := Tryz.sizeOf9
    have t22 := Tryz.underlying22
    have u22 := Tryz.runUnderlying22
    have g22 := Tryz.isAgg22
    have z22 := Tryz.sizeOf22
    have t31 := Tryz.underlying31
    have u31 := Tryz.runUnderlying31
    have g31 := Tryz.isAgg31
    have z31 := Tryz.sizeOf31
    have c36 := Tryz.call36
    have c35 := Tryz.call35
    have mixed : Tryz.prog.follows .mixedOrders = true := by kernel_rfl
    obtain ⟨k22, hk22⟩ : ∃ k, k = 22 := ⟨_, rfl⟩
    rw [← hk22] at z31
    have nk22 : ¬ k22 = 0 := by omega
    have HK31 := Lib.hid hk22
    have hP : Tryz.prog = PD := rfl
    rw [hP] at t3 u3 g3 z3 t4 u4 g4 z4 t9 u9 g9 z9 t22 u22 g22 z22 t31 u31 g31 z31 c36 c35 mixed ⊢
    have HP := Lib.hid hP.symm
    clear hP hk22
    go_wp2_with (first | (go_at_call 35; go_loud (refine (at_prog HP.out (HM.out _ (Fr.refl _ _))).mono ?_; rintro e w4 ⟨rfl, hf4⟩)) | (go_at_call 36; go_loud (refine (at_prog HP.out (HIN.out _)).mono ?_; rintro e w3 ⟨rfl, hf3⟩)) | fail)
    go_ret
    exact ⟨by rw [HV2.out]; try rfl, hf4.trans hf3⟩
  | true =>
    rcases htwo with rfl | ⟨t, r, rfl, htl, hr, hmr⟩
    · have HV2 : Hid (alN L nl port = true) := by show _ = _; rw [HV.out]; rfl
      clear HV
      go_enter Tryz.func16, Tryz.ntmps16
      have t3 := Tryz.underlying3
      have u3 := Tryz.runUnderlying3
      have g3 := Tryz.isAgg3
      have z3 := Tryz.sizeOf3
      have t4 := Tryz.underlying4
      have u4 := Tryz.runUnderlying4
      have g4 := Tryz.isAgg4
      have z4 := Tryz.sizeOf4
      have t9 := Tryz.underlying9
      have u9 := Tryz.runUnderlying9
      have g9 := Tryz.isAgg9
      have z9 := Tryz.sizeOf9
      have t22 := Tryz.underlying22
      have u22 := Tryz.runUnderlying22
      have g22 := Tryz.isAgg22
      have z22 := Tryz.sizeOf22
      have t31 := Tryz.underlying31
      have u31 := Tryz.runUnderlying31
      have g31 := Tryz.isAgg31
      have z31 := Tryz.sizeOf31
      have c36 := Tryz.call36
      have c35 := Tryz.call35
      have mixed : Tryz.prog.follows .mixedOrders = true := by kernel_rfl
      obtain ⟨k22, hk22⟩ : ∃ k, k = 22 := ⟨_, rfl⟩
      rw [← hk22] at z31
      have nk22 : ¬ k22 = 0 := by omega
      have HK31 := Lib.hid hk22
      have hP : Tryz.prog = PD := rfl
      rw [hP] at t3 u3 g3 z3 t4 u4 g4 z4 t9 u9 g9 z9 t22 u22 g22 z22 t31 u31 g31 z31 c36 c35 mixed ⊢
      have HP := Lib.hid hP.symm
      clear hP hk22
      go_wp2_with (first | (go_at_call 35; go_loud (refine (at_prog HP.out (HM.out _ (Fr.refl _ _))).mono ?_; rintro e w4 ⟨rfl, hf4⟩)) | (go_at_call 36; go_loud (refine (at_prog HP.out (HIN.out _)).mono ?_; rintro e w3 ⟨rfl, hf3⟩)) | fail)
      go_ret
      exact ⟨by rw [HV2.out]; try rfl, hf4.trans hf3⟩
    · obtain ⟨b, o, rfl, hb, hcell⟩ := HR0.out.cell hr
      have HV2 : Hid (alN L nl port = r.al) := by show _ = _; rw [HV.out, Int.toNat_natCast, hr, decide_eq_false (by omega : ¬ (t : Int) < 0)]; rfl
      have HC : Hid (∀ w', Fr No w w' → w'.cell? ⟨b, o + t * 22, none⟩ = some (.bool r.al)) := fun w' hf => by have := (hcell w' hf).2 0 (.bool r.al) rfl; exact this
      have p1 : (0 : Int) ≤ (t : Int) := by omega
      have p2 : (t : Int) < (n : Int) := by rw [HN.out] at htl; omega
      have p3 : ¬ (t : Int) < 0 := by omega
      generalize r.al = al at HV2 HC
      clear HV hcell hb hr hmr
      go_enter Tryz.func16, Tryz.ntmps16
      have t3 := Tryz.underlying3
      have u3 := Tryz.runUnderlying3
      have g3 := Tryz.isAgg3
      have z3 := Tryz.sizeOf3
      have t4 := Tryz.underlying4
      have u4 := Tryz.runUnderlying4
      have g4 := Tryz.isAgg4
      have z4 := Tryz.sizeOf4
      have t9 := Tryz.underlying9
      have u9 := Tryz.runUnderlying9
      have g9 := Tryz.isAgg9
      have z9 := Tryz.sizeOf9
      have t22 := Tryz.underlying22
      have u22 := Tryz.runUnderlying22
      have g22 := Tryz.isAgg22
      have z22 := Tryz.sizeOf22
      have t31 := Tryz.underlying31
      have u31 := Tryz.runUnderlying31
      have g31 := Tryz.isAgg31
      have z31 := Tryz.sizeOf31
      have c36 := Tryz.call36
      have c35 := Tryz.call35
      have mixed : Tryz.prog.follows .mixedOrders = true := by kernel_rfl
      obtain ⟨k22, hk22⟩ : ∃ k, k = 22 := ⟨_, rfl⟩
      rw [← hk22] at z31
      have nk22 : ¬ k22 = 0 := by omega
      have HK31 := Lib.hid hk22
      have hP : Tryz.prog = PD := rfl
      rw [hP] at t3 u3 g3 z3 t4 u4 g4 z4 t9 u9 g9 z9 t22 u22 g22 z22 t31 u31 g31 z31 c36 c35 mixed ⊢
      have HP := Lib.hid hP.symm
      clear hP hk22
      rw [← HK31.out] at HC
      go_wp2_with (first | (go_at_call 35; go_loud (refine (at_prog HP.out (HM.out _ (Fr.refl _ _))).mono ?_; rintro e w4 ⟨rfl, hf4⟩)) | (go_at_call 36; go_loud (refine (at_prog HP.out (HIN.out _)).mono ?_; rintro e w3 ⟨rfl, hf3⟩; have d1 := HC.out _ (hf4.trans hf3))) | fail)
      go_ret
      exact ⟨by rw [HV2.out]; try rfl, hf4.trans hf3⟩

def alT (L : List Ru) (nl : List UInt8) (b : Bool) (xs : List Nat) (p : Int) : Bool := vT nl b xs p && (if nl = [] then alA L b xs p else alN L nl p)
set_option maxHeartbeats 4000000 in
set_option maxRecDepth 100000 in
theorem allowt_any (n0 : Nat) (w : World) (x : Nat) (L : List Ru) (tb : Nat) (ra : Option Addr) (rc : Nat) (T0 : List (Px × Value)) (X : Nat → Prop) (h : Inc n0 w x L L.length tb ra rc T0 X) (hm : L.length ≤ 32) (nl : List UInt8) (b : Bool) (xs : List Nat) (p : Int) (hx : Bytes xs) :
    Calls Tryz.prog 30 #[.pointer (some ⟨x, 0, none⟩), .agg (tgt (bs nl) b xs p).toArray] w fun e w' => e = .returned (.bool (alT L nl b xs p)) ∧ Fr No w w' := by
  obtain ⟨T, hT, h0, h1, h18, hs19, hT2, hT1⟩ := tgt_letter (bs nl) b xs p hx
  have HVT : Hid (∀ w', Calls Tryz.prog 52 #[.agg T] w' fun e w'' => e = .returned (.bool (vT nl b xs p)) ∧ Fr No w' w'') := fun w' => by rw [← hT]; exact valid_t nl b xs p hx w'
  rw [hT]
  clear hT h1
  obtain ⟨A, hA, -, hA17, -⟩ := adr_letter b xs hx
  rw [hA] at hT2
  have hb1 := heap_alloc_new w (.cells T 66)
  have hF := Fr.alloc No w (.cells T 66)
  have HA : Hid (∀ w', Fr No w w' → Calls Tryz.prog 12 #[.pointer (some ⟨x, 0, none⟩), .agg A, .int .i64 p] w' fun e w'' => e = .returned (.bool (alA L b xs p)) ∧ Fr No w' w'') := fun w' hf => by
    rw [← hA]; exact allowa_any n0 w' x L tb ra rc T0 X (h.no hf) hm b xs hx p
  have HN : Hid (∀ w', Fr No w w' → Calls Tryz.prog 14 #[.pointer (some ⟨x, 0, none⟩), .string (bs nl), .int .i64 p] w' fun e w'' => e = .returned (.bool (alN L nl p)) ∧ Fr No w' w'') := fun w' hf => allown_any n0 w' x L tb ra rc T0 X (h.no hf) hm nl p
  have HC : Hid (∀ w', Fr No (w.alloc (.cells T 66)) w' → Fr No w w' ∧ w'.cell? ⟨w.heap.size, 0, none⟩ = some (.string (bs nl)) ∧ w'.cell? ⟨w.heap.size, 18, none⟩ = some (.int .i64 p) ∧ (∀ Q : Program, Sem.run Q (loadCellsFrom ⟨w.heap.size, 0, none⟩ 0 19 #[]) w' = .ok T w') ∧ (∀ Q : Program, Sem.run Q (loadCellsFrom ⟨w.heap.size, 1, none⟩ 0 17 #[]) w' = .ok A w')) := fun w' hf => ⟨hF.trans hf, cell_of (hf.keep hb1) h0, cell_of (hf.keep hb1) h18, fun Q => load_block (hf.keep hb1) hs19 (fun j v hv => by simpa using hv), fun Q => load_block (hf.keep hb1) hA17 hT2⟩
  have HV : Hid (alT L nl b xs p = (vT nl b xs p && (if nl = [] then alA L b xs p else alN L nl p))) := rfl
  have hemp := bs_empty nl
  generalize vT nl b xs p = vt at HVT HV
  clear hA hb1 hF hT2 hT1 h0 h18 h
  cases vt with
  | false =>
    have HV2 : Hid (alT L nl b xs p = false) := by show _ = _; rw [HV.out]; rfl
    clear HV hemp
    go_enter Tryz.func30, Tryz.ntmps30
    have t3 := Tryz.underlying3
    have u3 := Tryz.runUnderlying3
    have g3 := Tryz.isAgg3
    have z3 := Tryz.sizeOf3
    have t4 := Tryz.underlying4
    have u4 := Tryz.runUnderlying4
    have g4 := Tryz.isAgg4
    have z4 := Tryz.sizeOf4
    have t9 := Tryz.underlying9
    have u9 := Tryz.runUnderlying9
    have g9 := Tryz.isAgg9
    have z9 := Tryz.sizeOf9
    have t25 := Tryz.underlying25
    have u25 := Tryz.runUnderlying25
    have g25 := Tryz.isAgg25
    have z25 := Tryz.sizeOf25
    have t66 := Tryz.underlying66
    have u66 := Tryz.runUnderlying66
    have g66 := Tryz.isAgg66
    have z66 := Tryz.sizeOf66
    have c52 := Tryz.call52
    have c12 := Tryz.call12
    have c14 := Tryz.call14
    have mixed : Tryz.prog.follows .mixedOrders = true := by kernel_rfl
    obtain ⟨k24, hk24⟩ : ∃ k, k = 17 := ⟨_, rfl⟩
    rw [← hk24] at z25
    have nk24 : ¬ k24 = 0 := by omega
    have HK25 := Lib.hid hk24
    obtain ⟨k62, hk62⟩ : ∃ k, k = 19 := ⟨_, rfl⟩
    rw [← hk62] at z66
    have nk62 : ¬ k62 = 0 := by omega
    have HK66 := Lib.hid hk62
    have hP : Tryz.prog = PD := rfl
    rw [hP] at t3 u3 g3 z3 t4 u4 g4 z4 t9 u9 g9 z9 t25 u25 g25 z25 t66 u66 g66 z66 c52 c12 c14 mixed ⊢
    have HP := Lib.hid hP.symm
    clear hP hk24 hk62
    have hTk : T.size = k62 := by rw [HK66.out]; exact hs19
    have hAk : A.size = k24 := by rw [HK25.out]; exact hA17
    obtain ⟨g0, g1, g2, g3', g4'⟩ := HC.out _ (Fr.refl _ _)
    have g3 := g3' PD
    have g4 := g4' PD
    rw [← HK66.out] at g3
    rw [← HK25.out] at g4
    clear g0 g3' g4' 
    go_wp2_with (first | (go_at_call 52; go_loud (refine (at_prog HP.out (HVT.out _)).mono ?_; rintro e w3 ⟨rfl, hf3⟩)) | fail)
    go_ret
    exact ⟨by rw [HV2.out]; try rfl, (HC.out _ hf3).1⟩
  | true =>
    by_cases hnl : nl = []
    · have HV2 : Hid (alT L nl b xs p = alA L b xs p) := by show _ = _; rw [HV.out, if_pos hnl]; rfl
      rw [decide_eq_true hnl] at hemp
      generalize bs nl = sn at HN HC hemp
      clear HV hnl
      go_enter Tryz.func30, Tryz.ntmps30
      have t3 := Tryz.underlying3
      have u3 := Tryz.runUnderlying3
      have g3 := Tryz.isAgg3
      have z3 := Tryz.sizeOf3
      have t4 := Tryz.underlying4
      have u4 := Tryz.runUnderlying4
      have g4 := Tryz.isAgg4
      have z4 := Tryz.sizeOf4
      have t9 := Tryz.underlying9
      have u9 := Tryz.runUnderlying9
      have g9 := Tryz.isAgg9
      have z9 := Tryz.sizeOf9
      have t25 := Tryz.underlying25
      have u25 := Tryz.runUnderlying25
      have g25 := Tryz.isAgg25
      have z25 := Tryz.sizeOf25
      have t66 := Tryz.underlying66
      have u66 := Tryz.runUnderlying66
      have g66 := Tryz.isAgg66
      have z66 := Tryz.sizeOf66
      have c52 := Tryz.call52
      have c12 := Tryz.call12
      have c14 := Tryz.call14
      have mixed : Tryz.prog.follows .mixedOrders = true := by kernel_rfl
      obtain ⟨k24, hk24⟩ : ∃ k, k = 17 := ⟨_, rfl⟩
      rw [← hk24] at z25
      have nk24 : ¬ k24 = 0 := by omega
      have HK25 := Lib.hid hk24
      obtain ⟨k62, hk62⟩ : ∃ k, k = 19 := ⟨_, rfl⟩
      rw [← hk62] at z66
      have nk62 : ¬ k62 = 0 := by omega
      have HK66 := Lib.hid hk62
      have hP : Tryz.prog = PD := rfl
      rw [hP] at t3 u3 g3 z3 t4 u4 g4 z4 t9 u9 g9 z9 t25 u25 g25 z25 t66 u66 g66 z66 c52 c12 c14 mixed ⊢
      have HP := Lib.hid hP.symm
      clear hP hk24 hk62
      have hTk : T.size = k62 := by rw [HK66.out]; exact hs19
      have hAk : A.size = k24 := by rw [HK25.out]; exact hA17
      obtain ⟨g0, g1, g2, g3', g4'⟩ := HC.out _ (Fr.refl _ _)
      have g3 := g3' PD
      have g4 := g4' PD
      rw [← HK66.out] at g3
      rw [← HK25.out] at g4
      clear g0 g3' g4' 
      go_wp2_with (first | (go_at_call 52; go_loud (refine (at_prog HP.out (HVT.out _)).mono ?_; rintro e w3 ⟨rfl, hf3⟩; obtain ⟨e0, e1, e2, -, e4'⟩ := HC.out _ hf3; have e4 := e4' PD; rw [← HK25.out] at e4; clear e4')) | (go_at_call 12; go_loud (refine (at_prog HP.out (HA.out _ e0)).mono ?_; rintro e w4 ⟨rfl, hf4⟩)) | fail)
      go_ret
      exact ⟨by rw [HV2.out]; try rfl, e0.trans hf4⟩
    · have HV2 : Hid (alT L nl b xs p = alN L nl p) := by show _ = _; rw [HV.out, if_neg hnl]; rfl
      rw [decide_eq_false hnl] at hemp
      generalize bs nl = sn at HN HC hemp
      clear HV hnl
      go_enter Tryz.func30, Tryz.ntmps30
      have t3 := Tryz.underlying3
      have u3 := Tryz.runUnderlying3
      have g3 := Tryz.isAgg3
      have z3 := Tryz.sizeOf3
      have t4 := Tryz.underlying4
      have u4 := Tryz.runUnderlying4
      have g4 := Tryz.isAgg4
      have z4 := Tryz.sizeOf4
      have t9 := Tryz.underlying9
      have u9 := Tryz.runUnderlying9
      have g9 := Tryz.isAgg9
      have z9 := Tryz.sizeOf9
      have t25 := Tryz.underlying25
      have u25 := Tryz.runUnderlying25
      have g25 := Tryz.isAgg25
      have z25 := Tryz.sizeOf25
      have t66 := Tryz.underlying66
      have u66 := Tryz.runUnderlying66
      have g66 := Tryz.isAgg66
      have z66 := Tryz.sizeOf66
      have c52 := Tryz.call52
      have c12 := Tryz.call12
      have c14 := Tryz.call14
      have mixed : Tryz.prog.follows .mixedOrders = true := by kernel_rfl
      obtain ⟨k24, hk24⟩ : ∃ k, k = 17 := ⟨_, rfl⟩
      rw [← hk24] at z25
      have nk24 : ¬ k24 = 0 := by omega
      have HK25 := Lib.hid hk24
      obtain ⟨k62, hk62⟩ : ∃ k, k = 19 := ⟨_, rfl⟩
      rw [← hk62] at z66
      have nk62 : ¬ k62 = 0 := by omega
      have HK66 := Lib.hid hk62
      have hP : Tryz.prog = PD := rfl
      rw [hP] at t3 u3 g3 z3 t4 u4 g4 z4 t9 u9 g9 z9 t25 u25 g25 z25 t66 u66 g66 z66 c52 c12 c14 mixed ⊢
      have HP := Lib.hid hP.symm
      clear hP hk24 hk62
      have hTk : T.size = k62 := by rw [HK66.out]; exact hs19
      have hAk : A.size = k24 := by rw [HK25.out]; exact hA17
      obtain ⟨g0, g1, g2, g3', g4'⟩ := HC.out _ (Fr.refl _ _)
      have g3 := g3' PD
      have g4 := g4' PD
      rw [← HK66.out] at g3
      rw [← HK25.out] at g4
      clear g0 g3' g4' 
      go_wp2_with (first | (go_at_call 52; go_loud (refine (at_prog HP.out (HVT.out _)).mono ?_; rintro e w3 ⟨rfl, hf3⟩; obtain ⟨e0, e1, e2, -, e4'⟩ := HC.out _ hf3; have e4 := e4' PD; rw [← HK25.out] at e4; clear e4')) | (go_at_call 14; go_loud (refine (at_prog HP.out (HN.out _ e0)).mono ?_; rintro e w4 ⟨rfl, hf4⟩)) | fail)
      go_ret
      exact ⟨by rw [HV2.out]; try rfl, e0.trans hf4⟩
end Go.Proofs.YtnadendhboiliaaGreat
