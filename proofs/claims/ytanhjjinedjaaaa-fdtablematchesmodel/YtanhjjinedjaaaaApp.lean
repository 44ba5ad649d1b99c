/-
  CONTRACTS of the reference's operations beside a table, of someEndpoint and of applyBoth, over this seat's translation: both sides answer the same and keep the same entries.
  Conditions: table and reference lie in memory side by side and have the same entries.
-/
import Derived.Test.YtanhjjinedjaaaaAwake
import Derived.Test.YtanhjjinedjaaaaRef3
import Derived.Test.YtanhjjinedjaaaaRef4
namespace Go.Proofs.Ytanhjjinedjaaaa
open Go.ChangeShapes Go.WideShapes Go.ChangeAt Go.RowKit
set_option linter.unusedVariables false

section
variable {w0 w : World} {Z : Nat → Prop} {rb k tot : Nat} {M : List D} {A : (Nat → Prop) → World → Prop}

theorem rduo_open (h : Duo w0 w Z A (Ref rb M k tot)) (xc xa : Int) (p : Bool) (hlen : M.length ≤ k) (htot : tot ≤ 100000) :
    Calls Try.prog 31 #[.pointer (some ⟨rb, 0, none⟩), .agg #[.int .i64 xc, .int .i64 xa], .bool p] w fun e w' => ∃ no r M' q, e = .returned (.tuple #[.int .i64 (no : Nat), .int .i64 r]) ∧ Opn M (xc, xa) (stOf p) k no r M' q ∧ Duo w0 w' Z A (Ref rb M' k (tot + q)) ∧ ∀ k, Z k → w'.heap[k]? = w.heap[k]? := by
  obtain ⟨S, hA, hS, hZ, hT⟩ := h.b
  refine (open_ref S rb M k tot xc xa p w hA hS hlen htot).mono ?_
  rintro e w' ⟨no, r, M', q, rfl, hO, hA', hf⟩
  obtain ⟨h1, h2⟩ := hT w' (Ref rb M' k (tot + q)) (ref_mov _ _ _ _) hA' hf
  exact ⟨no, r, M', q, rfl, hO, h1, h2⟩

theorem rduo_close (h : Duo w0 w Z A (Ref rb M k tot)) (xc xa : Int) :
    Calls Try.prog 35 #[.pointer (some ⟨rb, 0, none⟩), .agg #[.int .i64 xc, .int .i64 xa]] w fun e w' => ∃ r M', e = .returned (.int .i64 r) ∧ Cl M (xc, xa) r M' ∧ Duo w0 w' Z A (Ref rb M' k tot) ∧ ∀ k, Z k → w'.heap[k]? = w.heap[k]? := by
  obtain ⟨S, hA, hS, hZ, hT⟩ := h.b
  refine (close_ref S rb M k tot xc xa w hA hS).mono ?_
  rintro e w' ⟨r, M', rfl, hO, hA', hf⟩
  obtain ⟨h1, h2⟩ := hT w' (Ref rb M' k tot) (ref_mov _ _ _ _) hA' hf
  exact ⟨r, M', rfl, hO, h1, h2⟩

theorem rduo_remote (h : Duo w0 w Z A (Ref rb M k tot)) (xc xa : Int) :
    Calls Try.prog 33 #[.pointer (some ⟨rb, 0, none⟩), .agg #[.int .i64 xc, .int .i64 xa]] w fun e w' => ∃ r M', e = .returned (.int .i64 r) ∧ Ap 1 M (xc, xa) r M' ∧ Duo w0 w' Z A (Ref rb M' k tot) ∧ ∀ k, Z k → w'.heap[k]? = w.heap[k]? := by
  obtain ⟨S, hA, hS, hZ, hT⟩ := h.b
  refine (remote_ref S rb M k tot xc xa w hA).mono ?_
  rintro e w' ⟨r, M', rfl, hO, hA', hf⟩
  obtain ⟨h1, h2⟩ := hT w' (Ref rb M' k tot) (ref_mov _ _ _ _) hA' hf
  exact ⟨r, M', rfl, hO, h1, h2⟩

theorem rduo_local_ (h : Duo w0 w Z A (Ref rb M k tot)) (xc xa : Int) :
    Calls Try.prog 34 #[.pointer (some ⟨rb, 0, none⟩), .agg #[.int .i64 xc, .int .i64 xa]] w fun e w' => ∃ r M', e = .returned (.int .i64 r) ∧ Ap 2 M (xc, xa) r M' ∧ Duo w0 w' Z A (Ref rb M' k tot) ∧ ∀ k, Z k → w'.heap[k]? = w.heap[k]? := by
  obtain ⟨S, hA, hS, hZ, hT⟩ := h.b
  refine (local__ref S rb M k tot xc xa w hA).mono ?_
  rintro e w' ⟨r, M', rfl, hO, hA', hf⟩
  obtain ⟨h1, h2⟩ := hT w' (Ref rb M' k tot) (ref_mov _ _ _ _) hA' hf
  exact ⟨r, M', rfl, hO, h1, h2⟩

theorem rduo_connected (h : Duo w0 w Z A (Ref rb M k tot)) (xc xa : Int) :
    Calls Try.prog 32 #[.pointer (some ⟨rb, 0, none⟩), .agg #[.int .i64 xc, .int .i64 xa]] w fun e w' => ∃ r M', e = .returned (.int .i64 r) ∧ Ap 0 M (xc, xa) r M' ∧ Duo w0 w' Z A (Ref rb M' k tot) ∧ ∀ k, Z k → w'.heap[k]? = w.heap[k]? := by
  obtain ⟨S, hA, hS, hZ, hT⟩ := h.b
  refine (connected_ref S rb M k tot xc xa w hA).mono ?_
  rintro e w' ⟨r, M', rfl, hO, hA', hf⟩
  obtain ⟨h1, h2⟩ := hT w' (Ref rb M' k tot) (ref_mov _ _ _ _) hA' hf
  exact ⟨r, M', rfl, hO, h1, h2⟩
end

theorem results_one {P : Program} {fn : Func} (h : fn.results = #[.cell 2 38]) (tmps : Array Value) {w : World} {b : Nat} {x y : Value} (hg : Sem.run P (isAgg 38) w = .ok true w) (hz : Sem.run P (Go.sizeOf 38) w = .ok 2 w)
    (hp : tmps.getD 2 undef = .pointer (some ⟨b, 0, none⟩)) (h0 : w.cell? ⟨b, 0, none⟩ = some x) (h1 : w.cell? ⟨b, 1, none⟩ = some y) :
    (results fn tmps).run P w = .ok (.agg #[x, y]) w := by
  simp only [results, h]
  simp [Sem.run_bind, Result.andThen, loadVar, loadCells] at hp ⊢
  simp [hp, asAddr, hg, hz, loadCellsFrom, Go.WideShapes.add_plain, h0, h1]

theorem two_set {w : World} {rb : Nat} {a b : Value} {t : TypeId} (h : w.heap[rb]? = some (.cells #[a, b] t (0, 0))) (x y : Value) : ((w.setCell ⟨rb, 0, none⟩ x).setCell ⟨rb, 1, none⟩ y).heap[rb]? = some (.cells #[x, y] t (0, 0)) := by
  have h1 : (w.setCell ⟨rb, 0, none⟩ x).heap[rb]? = some (.cells #[x, b] t (0, 0)) := by rw [heap_setCell_same w rb 0 _ _ x h]; rfl
  rw [heap_setCell_same _ rb 1 _ _ y h1]; rfl

set_option maxHeartbeats 1000000 in
set_option maxRecDepth 100000 in
theorem someEnd_any (xc xa : Int) (w : World) (bx : -9223372036854775808 ≤ xc ∧ xc ≤ 9223372036854775807) (by_ : -9223372036854775808 ≤ xa ∧ xa ≤ 9223372036854775807) :
    Calls Try.prog 15 #[.agg #[.int .i64 xc, .int .i64 xa]] w fun e w' => ∃ c a : Int, e = .returned (.agg #[.int .i64 c, .int .i64 a]) ∧ Fr No w w' := by
  obtain ⟨m9, _, hM9⟩ := mod_fix xc 9 9 rfl (by omega) (by omega) bx
  obtain ⟨m1, _, hM1⟩ := mod_fix xc 4 4 rfl (by omega) (by omega) bx
  obtain ⟨m2, _, hM2⟩ := mod_fix xa 4 4 rfl (by omega) (by omega) by_
  have H9 := Lib.hid hM9
  have HC1 := Lib.hid hM1
  have HC2 := Lib.hid hM2
  have HB : Hid (((w.alloc (.cells #[.int .i64 xc, .int .i64 xa] 38)).alloc (.cells #[.int .i64 0, .int .i64 0] 38)).heap[w.heap.size + 1]? = some (.cells #[.int .i64 0, .int .i64 0] 38 (0, 0))) := by
    have := heap_alloc_new (w.alloc (.cells #[.int .i64 xc, .int .i64 xa] 38)) (.cells #[.int .i64 0, .int .i64 0] 38)
    simpa [Hid] using this
  have HX : Hid (((w.alloc (.cells #[.int .i64 xc, .int .i64 xa] 38)).alloc (.cells #[.int .i64 0, .int .i64 0] 38)).heap[w.heap.size]? = some (.cells #[.int .i64 xc, .int .i64 xa] 38 (0, 0))) :=
    ((Fr.alloc No (w.alloc (.cells #[.int .i64 xc, .int .i64 xa] 38)) _).block w.heap.size (by simp) (fun h => h)).trans (heap_alloc_new w _)
  have HF : Hid (Fr No w ((w.alloc (.cells #[.int .i64 xc, .int .i64 xa] 38)).alloc (.cells #[.int .i64 0, .int .i64 0] 38))) := (Fr.alloc No _ _).trans (Fr.alloc No _ _)
  clear hM9 hM1 hM2 bx by_
  go_enter Try.func15, Try.ntmps15
  go_wp2_with fail
  obtain ⟨xb, hxb⟩ : ∃ xb, w.heap.size = xb := ⟨_, rfl⟩
  obtain ⟨nb, hnb⟩ : ∃ nb, xb + 1 = nb := ⟨_, rfl⟩
  rw [hxb] at HB HX ⊢
  rw [hnb] at HB ⊢
  have hne : xb ≠ nb := by omega
  have hne' : nb ≠ xb := by omega
  have HXB : Hid (w.heap.size ≤ nb) := by show _ ≤ _; omega
  clear hxb hnb
  revert HF; revert HX; revert HB
  generalize (w.alloc (.cells #[.int .i64 xc, .int .i64 xa] 38)).alloc (.cells #[.int .i64 0, .int .i64 0] 38) = y
  intro HB HX HF
  refine (H9.out _).mono ?_
  rintro e w1 ⟨rfl, hw⟩
  have hw' := hw.symm
  subst hw'
  clear hw
  obtain ⟨x0, x1⟩ := pair_cells HX.out
  obtain ⟨n0, n1⟩ := pair_cells HB.out
  have z0 : y.frozen? ⟨nb, 0, none⟩ = false := frozen_of_row _ _ _ _ _ HB.out
  have z1 : y.frozen? ⟨nb, 1, none⟩ = false := frozen_of_row _ _ _ _ _ HB.out
  have hfin : ∀ c a : Int, Hid (((y.setCell ⟨nb, 0, none⟩ (.int .i64 c)).setCell ⟨nb, 1, none⟩ (.int .i64 a)).heap[nb]? = some (.cells #[.int .i64 c, .int .i64 a] 38 (0, 0)) ∧ Fr No w ((y.setCell ⟨nb, 0, none⟩ (.int .i64 c)).setCell ⟨nb, 1, none⟩ (.int .i64 a))) := fun c a =>
    ⟨two_set HB.out _ _, HF.out.ofNew ((Fr.setCell (fun k => k = nb) _ ⟨nb, 0, none⟩ _ rfl).trans (Fr.setCell (fun k => k = nb) _ ⟨nb, 1, none⟩ _ rfl)) (fun k hk => .inr (by have := HXB.out; omega))⟩
  by_cases h8 : m9 = 8
  · have h8' : (m9 : Int) = 8 := by omega
    go_wp2_with fail
    obtain ⟨k0, k1⟩ := pair_cells (hfin xc xa).out.1
    refine bodyPost_ret_by (results_one rfl _ (b := nb) (x := .int .i64 xc) (y := .int .i64 xa) (Try.isAgg38 _) (Try.sizeOf38 _) rfl k0 k1) rfl ?_
    exact ⟨xc, xa, rfl, (hfin xc xa).out.2⟩
  · have h8' : ¬ ((m9 : Int) = 8) := by omega
    go_wp2_with fail
    refine region_tail 7 (by kernel_rfl) (by kernel_rfl) ?_
    intro z hz
    have HZ : Hid (z = y.drew) := hz
    have y0 : z.cell? ⟨xb, 0, none⟩ = some (.int .i64 xc) := by subst hz; exact x0
    have y1 : z.cell? ⟨xb, 1, none⟩ = some (.int .i64 xa) := by subst hz; exact x1
    have u0 : z.cell? ⟨nb, 0, none⟩ = some (.int .i64 0) := by subst hz; exact n0
    have u1 : z.cell? ⟨nb, 1, none⟩ = some (.int .i64 0) := by subst hz; exact n1
    have v0 : z.frozen? ⟨nb, 0, none⟩ = false := by subst hz; exact z0
    have v1 : z.frozen? ⟨nb, 1, none⟩ = false := by subst hz; exact z1
    clear hz x0 x1 n0 n1 z0 z1
    simp only [List.take_succ_cons, List.take_zero, List.drop_succ_cons, List.drop_zero]
    iterate 2 still_step
    still_call (HC1.out _)
    iterate 2 still_step
    still_call (HC2.out _)
    iterate 1 still_step
    refine wpStill_nil ?_
    go_wp2_with fail
    have hz := HZ.out
    subst hz
    have hf1 := (hfin m1 m2).out.1
    obtain ⟨k0, k1⟩ := pair_cells hf1
    refine bodyPost_ret_by (results_one rfl _ (b := nb) (x := .int .i64 m1) (y := .int .i64 m2) (Try.isAgg38 _) (Try.sizeOf38 _) rfl k0 k1) rfl ?_
    exact ⟨m1, m2, rfl, (hfin m1 m2).out.2.trans (Fr.drew No _)⟩

end Go.Proofs.Ytanhjjinedjaaaa
