/-
  CONTRACT of package acl's AllowsAddr, over this seat's translation: what the call returns.
  Conditions: the list lies in memory; the argument is an address.
-/
import Derived.Test.YtnadendhboiliaaGreatRi
import Derived.Test.YtnadendhboiliaaGreatBi
namespace Go.Proofs.YtnadendhboiliaaGreat
open Go.ChangeShapes Go.WideShapes Go.ChangeAt Go.RowKit
set_option linter.unusedVariables false

/-- Whether the rule at an index allows. -/
def alAt (L : List Ru) (v : Int) : Bool := match L[v.toNat]? with
  | some r => r.al
  | none => false
theorem alAt_nat {L : List Ru} {t : Nat} {r : Ru} (h : L[t]? = some r) : alAt L (t : Int) = r.al := by rw [alAt, Int.toNat_natCast, h]
def alA (L : List Ru) (c : Bool) (ys : List Nat) (port : Int) : Bool := decide (0 ≤ bV (mtA c ys port) kA L) && (alAt L (bV (mtA c ys port) kA L) && !(!validA c ys || decide (0 ≤ bIdx c ys)))
theorem bV_two (m : Ru → Bool) (k : Ru → Int) (L : List Ru) : bV m k L = -1 ∨ ∃ (t : Nat) (r : Ru), bV m k L = t ∧ t < L.length ∧ L[t]? = some r ∧ m r = true := bN_two m k L _ (Nat.le_refl _)

set_option maxHeartbeats 4000000 in
set_option maxRecDepth 100000 in
theorem allowa_any (n0 : Nat) (w : World) (x : Nat) (L : List Ru) (tb : Nat) (ra : Option Addr) (rc : Nat) (T : List (Px × Value)) (X : Nat → Prop) (h : Inc n0 w x L L.length tb ra rc T X) (hm : L.length ≤ 32) (c : Bool) (ys : List Nat) (hy : Bytes ys) (port : Int) :
    Calls Tryz.prog 12 #[.pointer (some ⟨x, 0, none⟩), .agg (adr c ys).toArray, .int .i64 port] w fun e w' => e = .returned (.bool (alA L c ys port)) ∧ Fr No w w' := by
  obtain ⟨A, hA, -, hAs, -⟩ := adr_letter c ys hy
  have hb1 := heap_alloc_new w (.cells A 25)
  have hF := Fr.alloc No w (.cells A 25)
  obtain ⟨v, hv⟩ : ∃ v, bV (mtA c ys port) kA L = v := ⟨_, rfl⟩
  have HM : Hid (∀ w', Fr No w w' → Calls Tryz.prog 28 #[.pointer (some ⟨x, 0, none⟩), .agg A, .int .i64 port] w' fun e w'' => e = .returned (.int .i64 v) ∧ Fr No w' w'') := fun w' hf => by
    rw [← hA, ← hv]; exact match_any n0 w' x L tb ra rc T X (h.no hf) hm c ys hy port
  have HBL : Hid (∀ w', Calls Tryz.prog 31 #[.agg A] w' fun e w'' => e = .returned (.bool (!validA c ys || decide (0 ≤ bIdx c ys))) ∧ Fr No w' w'') := fun w' => by rw [← hA]; exact contains_any c ys hy w'
  have HL : Hid (∀ w', Fr No (w.alloc (.cells A 25)) w' → Fr No w w' ∧ Sem.run Tryz.prog (loadCellsFrom ⟨w.heap.size, 0, none⟩ 0 17 #[]) w' = .ok A w') := fun w' hf => ⟨hF.trans hf, load_block (hf.keep hb1) hAs (fun j v hv => by simpa using hv)⟩
  have HV : Hid (alA L c ys port = (decide (0 ≤ v) && (alAt L v && !(!validA c ys || decide (0 ≤ bIdx c ys))))) := by show _ = _; rw [alA, hv]
  have htwo := bV_two (mtA c ys port) kA L
  rw [hv] at htwo
  have HI := Lib.hid h
  rw [hA]
  generalize (!validA c ys || decide (0 ≤ bIdx c ys)) = bl at HBL HV
  clear hA hb1 hF hv h
  rcases htwo with rfl | ⟨t, r, rfl, htl, hr, hmr⟩
  · have HV2 : Hid (alA L c ys port = false) := by show _ = _; rw [HV.out]; rfl
    clear HV
    go_enter Tryz.func12, Tryz.ntmps12
    have t3 := Tryz.underlying3
    have u3 := Tryz.runUnderlying3
    have g3 := Tryz.isAgg3
    have z3 := Tryz.sizeOf3
    have t4 := Tryz.underlying4
    have u4 := Tryz.runUnderlying4
    have g4 := Tryz.isAgg4
    have z4 := Tryz.sizeOf4
    have t22 := Tryz.underlying22
    have u22 := Tryz.runUnderlying22
    have g22 := Tryz.isAgg22
    have z22 := Tryz.sizeOf22
    have t25 := Tryz.underlying25
    have u25 := Tryz.runUnderlying25
    have g25 := Tryz.isAgg25
    have z25 := Tryz.sizeOf25
    have t31 := Tryz.underlying31
    have u31 := Tryz.runUnderlying31
    have g31 := Tryz.isAgg31
    have z31 := Tryz.sizeOf31
    have t32 := Tryz.underlying32
    have u32 := Tryz.runUnderlying32
    have g32 := Tryz.isAgg32
    have z32 := Tryz.sizeOf32
    have t52 := Tryz.underlying52
    have u52 := Tryz.runUnderlying52
    have g52 := Tryz.isAgg52
    have z52 := Tryz.sizeOf52
    have c28 := Tryz.call28
    have c31 := Tryz.call31
    have mixed : Tryz.prog.follows .mixedOrders = true := by kernel_rfl
    obtain ⟨k24, hk24⟩ : ∃ k, k = 17 := ⟨_, rfl⟩
    rw [← hk24] at z25
    have nk24 : ¬ k24 = 0 := by omega
    have HK25 := Lib.hid hk24
    obtain ⟨k22, hk22⟩ : ∃ k, k = 22 := ⟨_, rfl⟩
    rw [← hk22] at z31
    have nk22 : ¬ k22 = 0 := by omega
    have HK31 := Lib.hid hk22
    have hP : Tryz.prog = PD := rfl
    rw [hP] at t3 u3 g3 z3 t4 u4 g4 z4 t22 u22 g22 z22 t25 u25 g25 z25 t31 u31 g31 z31 t32 u32 g32 z32 t52 u52 g52 z52 c28 c31 mixed ⊢
    have HP := Lib.hid hP.symm
    clear hP hk24 hk22
    have hAk : A.size = k24 := by rw [HK25.out]; exact hAs
    have hld : Sem.run PD (loadCellsFrom ⟨w.heap.size, 0, none⟩ 0 k24 #[]) (w.alloc (.cells A 25)) = .ok A (w.alloc (.cells A 25)) := by rw [HK25.out]; exact (HL.out _ (Fr.refl _ _)).2
    go_wp2_with (first | (go_at_call 28; go_loud (refine (at_prog HP.out (HM.out _ (HL.out _ (Fr.refl _ _)).1)).mono ?_; rintro e w3 ⟨rfl, hf3⟩)) | fail)
    go_ret
    exact ⟨by rw [HV2.out]; try rfl, (HL.out _ hf3).1⟩
  · obtain ⟨b, o, rfl, hb, hcell⟩ := HI.out.rows.cell hr
    have HV2 : Hid (alA L c ys port = (r.al && !bl)) := by show _ = _; rw [HV.out, alAt_nat hr, decide_eq_true (by omega : (0 : Int) ≤ (t : Int))]; rfl
    have HC : Hid (∀ w', Fr No (w.alloc (.cells A 25)) w' → w'.cell? ⟨x, 0, none⟩ = some (.slice (some ⟨b, o, none⟩) L.length rc) ∧ w'.cell? ⟨b, o + t * 22, none⟩ = some (.bool r.al)) := fun w' hf => ⟨cell_of ((HL.out w' hf).1.keep HI.out.box) rfl, by have := (hcell w' (HL.out w' hf).1).2 0 (.bool r.al) rfl; exact this⟩
    obtain ⟨ln, hln⟩ : ∃ ln, L.length = ln := ⟨_, rfl⟩
    rw [hln] at HC htl
    have p1 : (0 : Int) ≤ (t : Int) := by omega
    have p2 : (t : Int) < (ln : Int) := by omega
    generalize r.al = al at HV2 HC
    clear HV hcell hb hr hmr hln
    cases al
    · have HV3 : Hid (alA L c ys port = false) := by show _ = _; rw [HV2.out]; rfl
      go_enter Tryz.func12, Tryz.ntmps12
      have t3 := Tryz.underlying3
      have u3 := Tryz.runUnderlying3
      have g3 := Tryz.isAgg3
      have z3 := Tryz.sizeOf3
      have t4 := Tryz.underlying4
      have u4 := Tryz.runUnderlying4
      have g4 := Tryz.isAgg4
      have z4 := Tryz.sizeOf4
      have t22 := Tryz.underlying22
      have u22 := Tryz.runUnderlying22
      have g22 := Tryz.isAgg22
      have z22 := Tryz.sizeOf22
      have t25 := Tryz.underlying25
      have u25 := Tryz.runUnderlying25
      have g25 := Tryz.isAgg25
      have z25 := Tryz.sizeOf25
      have t31 := Tryz.underlying31
      have u31 := Tryz.runUnderlying31
      have g31 := Tryz.isAgg31
      have z31 := Tryz.sizeOf31
      have t32 := Tryz.underlying32
      have u32 := Tryz.runUnderlying32
      have g32 := Tryz.isAgg32
      have z32 := Tryz.sizeOf32
      have t52 := Tryz.underlying52
      have u52 := Tryz.runUnderlying52
      have g52 := Tryz.isAgg52
      have z52 := Tryz.sizeOf52
      have c28 := Tryz.call28
      have c31 := Tryz.call31
      have mixed : Tryz.prog.follows .mixedOrders = true := by kernel_rfl
      obtain ⟨k24, hk24⟩ : ∃ k, k = 17 := ⟨_, rfl⟩
      rw [← hk24] at z25
      have nk24 : ¬ k24 = 0 := by omega
      have HK25 := Lib.hid hk24
      obtain ⟨k22, hk22⟩ : ∃ k, k = 22 := ⟨_, rfl⟩
      rw [← hk22] at z31
      have nk22 : ¬ k22 = 0 := by omega
      have HK31 := Lib.hid hk22
      have hP : Tryz.prog = PD := rfl
      rw [hP] at t3 u3 g3 z3 t4 u4 g4 z4 t22 u22 g22 z22 t25 u25 g25 z25 t31 u31 g31 z31 t32 u32 g32 z32 t52 u52 g52 z52 c28 c31 mixed ⊢
      have HP := Lib.hid hP.symm
      clear hP hk24 hk22
      have hAk : A.size = k24 := by rw [HK25.out]; exact hAs
      have hld : Sem.run PD (loadCellsFrom ⟨w.heap.size, 0, none⟩ 0 k24 #[]) (w.alloc (.cells A 25)) = .ok A (w.alloc (.cells A 25)) := by rw [HK25.out]; exact (HL.out _ (Fr.refl _ _)).2
      rw [← HK31.out] at HC
      go_wp2_with (first | (go_at_call 28; go_loud (refine (at_prog HP.out (HM.out _ (HL.out _ (Fr.refl _ _)).1)).mono ?_; rintro e w3 ⟨rfl, hf3⟩; obtain ⟨d0, d1⟩ := HC.out _ hf3)) | fail)
      go_ret
      exact ⟨by rw [HV3.out]; try rfl, (HL.out _ hf3).1⟩
    · have HV3 : Hid (alA L c ys port = !bl) := by show _ = _; rw [HV2.out]; rfl
      go_enter Tryz.func12, Tryz.ntmps12
      have t3 := Tryz.underlying3
      have u3 := Tryz.runUnderlying3
      have g3 := Tryz.isAgg3
      have z3 := Tryz.sizeOf3
      have t4 := Tryz.underlying4
      have u4 := Tryz.runUnderlying4
      have g4 := Tryz.isAgg4
      have z4 := Tryz.sizeOf4
      have t22 := Tryz.underlying22
      have u22 := Tryz.runUnderlying22
      have g22 := Tryz.isAgg22
      have z22 := Tryz.sizeOf22
      have t25 := Tryz.underlying25
      have u25 := Tryz.runUnderlying25
      have g25 := Tryz.isAgg25
      have z25 := Tryz.sizeOf25
      have t31 := Tryz.underlying31
      have u31 := Tryz.runUnderlying31
      have g31 := Tryz.isAgg31
      have z31 := Tryz.sizeOf31
      have t32 := Tryz.underlying32
      have u32 := Tryz.runUnderlying32
      have g32 := Tryz.isAgg32
      have z32 := Tryz.sizeOf32
      have t52 := Tryz.underlying52
      have u52 := Tryz.runUnderlying52
      have g52 := Tryz.isAgg52
      have z52 := Tryz.sizeOf52
      have c28 := Tryz.call28
      have c31 := Tryz.call31
      have mixed : Tryz.prog.follows .mixedOrders = true := by kernel_rfl
      obtain ⟨k24, hk24⟩ : ∃ k, k = 17 := ⟨_, rfl⟩
      rw [← hk24] at z25
      have nk24 : ¬ k24 = 0 := by omega
      have HK25 := Lib.hid hk24
      obtain ⟨k22, hk22⟩ : ∃ k, k = 22 := ⟨_, rfl⟩
      rw [← hk22] at z31
      have nk22 : ¬ k22 = 0 := by omega
      have HK31 := Lib.hid hk22
      have hP : Tryz.prog = PD := rfl
      rw [hP] at t3 u3 g3 z3 t4 u4 g4 z4 t22 u22 g22 z22 t25 u25 g25 z25 t31 u31 g31 z31 t32 u32 g32 z32 t52 u52 g52 z52 c28 c31 mixed ⊢
      have HP := Lib.hid hP.symm
      clear hP hk24 hk22
      have hAk : A.size = k24 := by rw [HK25.out]; exact hAs
      have hld : Sem.run PD (loadCellsFrom ⟨w.heap.size, 0, none⟩ 0 k24 #[]) (w.alloc (.cells A 25)) = .ok A (w.alloc (.cells A 25)) := by rw [HK25.out]; exact (HL.out _ (Fr.refl _ _)).2
      rw [← HK31.out] at HC
      go_wp2_with (first | (go_at_call 28; go_loud (refine (at_prog HP.out (HM.out _ (HL.out _ (Fr.refl _ _)).1)).mono ?_; rintro e w3 ⟨rfl, hf3⟩; obtain ⟨d0, d1⟩ := HC.out _ hf3; have hld3 : Sem.run PD (loadCellsFrom ⟨w.heap.size, 0, none⟩ 0 k24 #[]) w3 = .ok A w3 := (by rw [HK25.out]; exact (HL.out _ hf3).2))) | (go_at_call 31; go_loud (refine (at_prog HP.out (HBL.out _)).mono ?_; rintro e w4 ⟨rfl, hf4⟩)) | fail)
      go_ret
      exact ⟨by rw [HV3.out]; try rfl, (HL.out _ (hf3.trans hf4)).1⟩
end Go.Proofs.YtnadendhboiliaaGreat
