/-
  CONTRACTS of Alloc of the reference arena, over this seat's translation: what each call returns, what it leaves in memory.
  Conditions: the reference arena lies in memory as RefAt says.
-/
import Derived.Test.YtgelgnakhghpkaaRef1
namespace Go.Proofs.Ytgelgnakhghpkaa
open Go.ChangeShapes Go.WideShapes Go.ChangeAt Go.RowKit
set_option linter.unusedVariables false

set_option maxHeartbeats 2000000 in
set_option maxRecDepth 100000 in
theorem alloc_ref_full (xb g k : Nat) (R : List RS) (B x : Int) (w : World) (h : RefAt w xb g k R B) (hF : FreeR R R.length) :
    Calls Try.prog 15 #[.pointer (some ⟨xb, 0, none⟩), .int .i64 x] w fun e w' => e = .returned (.tuple #[.agg #[.int .i64 0, .int .i64 0], .bool false]) ∧ Fr No w w' := by
  have hk8 := h.small
  have HS := Lib.hid (And.intro (h.frNo (Fr.alloc No w (.cells #[.int .i64 0, .int .i64 0] 38))) hF)
  have HN : Hid ((w.alloc (.cells #[.int .i64 0, .int .i64 0] 38)).heap[w.heap.size]? = some (.cells #[.int .i64 0, .int .i64 0] 38 (0, 0))) := heap_alloc_new w _
  have HF0 : Hid (Fr No w (w.alloc (.cells #[.int .i64 0, .int .i64 0] 38))) := Fr.alloc No w _
  clear h hF
  go_enter Try.func15, Try.ntmps15
  go_wp2_with fail
  obtain ⟨rb, hrb⟩ : ∃ rb, w.heap.size = rb := ⟨_, rfl⟩
  rw [hrb] at HN ⊢
  have HRB := Lib.hid hrb
  clear hrb
  revert HS; revert HN; revert HF0
  generalize w.alloc (.cells #[.int .i64 0, .int .i64 0] 38) = y
  intro HF0 HN HS
  go_loopg [6] (k + 1) (fun gg s6 wr => ∃ (j : Nat), s6 = .int .i64 j ∧ j ≤ k ∧ k - j < gg ∧ Hid (wr = y))
  case atStart => exact ⟨0, by go_num, by omega, by omega, rfl⟩
  case round =>
    obtain ⟨j, rfl, hjk, hjg, HR⟩ := hrel
    have hr := HS.out.1
    rw [← HR.out] at hr
    have c0 := hr.hcell
    by_cases hj : j < k
    · obtain ⟨r, gr⟩ : ∃ r, R[j]? = some r := ⟨_, List.getElem?_eq_getElem (by rw [hr.len]; exact hj)⟩
      obtain ⟨e0, e1, e2⟩ := hr.ecells gr
      rw [HS.out.2 j r (by rw [hr.len]; exact hj) gr] at e1
      have q1 : (0 : Int) ≤ (j : Int) := by omega
      have q2 : (j : Int) < (k : Int) := by omega
      clear hr gr
      go_wp2_with fail
      go_roundg (k - j)
      case measure => exact hjg
      case rel => exact ⟨j + 1, by go_num, by omega, by omega, HR.out⟩
    · obtain rfl : j = k := by omega
      have q2 : ¬ ((j : Int) < (j : Int)) := by omega
      have hN := HN.out
      rw [← HR.out] at hN
      obtain ⟨r0, r1⟩ := pair_cells hN
      have z0 : wr.frozen? ⟨rb, 0, none⟩ = false := frozen_of_row _ _ _ _ _ hN
      have z1 : wr.frozen? ⟨rb, 1, none⟩ = false := frozen_of_row _ _ _ _ _ hN
      have HN2 := Lib.hid hN
      clear hr hN
      go_wp2_with fail
      obtain ⟨k0, k1⟩ := two_cells HN2.out (.int .i64 0) (.int .i64 0)
      refine bodyPost_ret_by (results_hd rfl _ (b := rb) (x := .int .i64 0) (y := .int .i64 0) (Try.isAgg38 _) (Try.sizeOf38 _) rfl k0 k1) rfl ?_
      refine ⟨rfl, ?_⟩
      have h0 := HF0.out
      rw [← HR.out] at h0
      exact h0.ofNew (two_fr _ _) fun k hk => .inr (by have := HRB.out; omega)

set_option maxHeartbeats 4000000 in
set_option maxRecDepth 100000 in
theorem alloc_ref_ok (xb g k : Nat) (R : List RS) (B x : Int) (i : Nat) (r : RS) (w : World) (h : RefAt w xb g k R B) (hF : FreeR R i) (hr : R[i]? = some r) (hu : r.used = false) (hB : 0 ≤ B ∧ B ≤ 1000) :
    Calls Try.prog 15 #[.pointer (some ⟨xb, 0, none⟩), .int .i64 x] w fun e w' => e = .returned (.tuple #[.agg #[.int .i64 i, .int .i64 (r.gen + 1)], .bool true]) ∧ RefAt w' xb g k (R.set i ⟨r.gen + 1, true, x⟩) (B + 1) ∧ Fr (fun j => j = g) w w' := by
  have hk8 := h.small
  have hik : i < k := by rw [← h.len]; exact (List.getElem?_eq_some_iff.1 hr).1
  have hgen := h.gen r (List.mem_of_getElem? hr)
  have hgl := h.glt
  have hxl := h.xlt
  have hne := h.ne
  obtain ⟨rg, ru, rv⟩ := r
  simp only at hu hgen ⊢
  subst hu
  have HS := Lib.hid (And.intro (h.frNo (Fr.alloc No w (.cells #[.int .i64 0, .int .i64 0] 38))) (And.intro hF hr))
  have HN : Hid ((w.alloc (.cells #[.int .i64 0, .int .i64 0] 38)).heap[w.heap.size]? = some (.cells #[.int .i64 0, .int .i64 0] 38 (0, 0))) := heap_alloc_new w _
  have HF0 : Hid (Fr No w (w.alloc (.cells #[.int .i64 0, .int .i64 0] 38))) := Fr.alloc No w _
  clear h hF hr
  go_enter Try.func15, Try.ntmps15
  go_wp2_with fail
  obtain ⟨rb, hrb⟩ : ∃ rb, w.heap.size = rb := ⟨_, rfl⟩
  rw [hrb] at HN ⊢
  have hgr : g ≠ rb := by omega
  have hrg : rb ≠ g := Ne.symm hgr
  have hxr : xb ≠ rb := by omega
  have hrx : rb ≠ xb := Ne.symm hxr
  have hxg : xb ≠ g := Ne.symm hne
  have HRB := Lib.hid hrb
  clear hrb hgl hxl
  revert HS; revert HN; revert HF0
  generalize w.alloc (.cells #[.int .i64 0, .int .i64 0] 38) = y
  intro HF0 HN HS
  go_loopg [6] (i + 1) (fun gg s6 wr => ∃ (j : Nat), s6 = .int .i64 j ∧ j ≤ i ∧ i - j < gg ∧ Hid (wr = y))
  case atStart => exact ⟨0, by go_num, by omega, by omega, rfl⟩
  case round =>
    obtain ⟨j, rfl, hjk, hjg, HR⟩ := hrel
    have hr := HS.out.1
    rw [← HR.out] at hr
    have c0 := hr.hcell
    by_cases hj : j < i
    · obtain ⟨r, gr⟩ : ∃ r, R[j]? = some r := ⟨_, List.getElem?_eq_getElem (by rw [hr.len]; omega)⟩
      obtain ⟨e0, e1, e2⟩ := hr.ecells gr
      rw [HS.out.2.1 j r hj gr] at e1
      have q1 : (0 : Int) ≤ (j : Int) := by omega
      have q2 : (j : Int) < (k : Int) := by omega
      clear hr gr
      go_wp2_with fail
      go_roundg (i - j)
      case measure => exact hjg
      case rel => exact ⟨j + 1, by go_num, by omega, by omega, HR.out⟩
    · obtain rfl : j = i := by omega
      have q1 : (0 : Int) ≤ (j : Int) := by omega
      have q2 : (j : Int) < (k : Int) := by omega
      obtain ⟨e0, e1, e2⟩ := hr.ecells HS.out.2.2
      have f0 := hr.efrozen (j * 3)
      have f1 := hr.efrozen (j * 3 + 1)
      have f2 := hr.efrozen (j * 3 + 2)
      have hN := HN.out
      rw [← HR.out] at hN
      obtain ⟨r0, r1⟩ := pair_cells hN
      have z0 : wr.frozen? ⟨rb, 0, none⟩ = false := frozen_of_row _ _ _ _ _ hN
      have z1 : wr.frozen? ⟨rb, 1, none⟩ = false := frozen_of_row _ _ _ _ _ hN
      have hF0 := HF0.out
      rw [← HR.out] at hF0
      have n01 : j * 3 ≠ j * 3 + 1 := by omega
      have n10 : j * 3 + 1 ≠ j * 3 := by omega
      have n02 : j * 3 ≠ j * 3 + 2 := by omega
      have n20 : j * 3 + 2 ≠ j * 3 := by omega
      have n12 : j * 3 + 1 ≠ j * 3 + 2 := by omega
      have n21 : j * 3 + 2 ≠ j * 3 + 1 := by omega
      have H1 := Lib.hid (And.intro hr (And.intro hN hF0))
      clear hr hN hF0
      simp only at e0 e1 e2
      go_wp2_with fail
      go_region
      all_goals (
        go_wp2_with fail
        obtain ⟨hr, hN, hF0⟩ := H1.out
        have p1 := hr.put HS.out.2.2 (j := 0) (v := .int .i64 (rg + 1)) (s' := ⟨rg + 1, false, rv⟩) rfl (by omega) (B' := B + 1) (by omega) (by simp only; omega)
        have p2 := p1.put (i := j) (s := ⟨rg + 1, false, rv⟩) (List.getElem?_set_self (by rw [hr.len]; exact hik)) (j := 1) (v := .bool true) (s' := ⟨rg + 1, true, rv⟩) rfl (by omega) (B' := B + 1) (by omega) (by simp only; omega)
        have p3 := p2.put (i := j) (s := ⟨rg + 1, true, rv⟩) (List.getElem?_set_self (by rw [List.length_set, hr.len]; exact hik)) (j := 2) (v := .int .i64 x) (s' := ⟨rg + 1, true, x⟩) rfl (by omega) (B' := B + 1) (by omega) (by simp only; omega)
        simp only [List.set_set, Nat.add_zero] at p3
        have hB2 := hN
        rw [← heap_setCell_other wr ⟨g, j * 3, none⟩ rb (.int .i64 (rg + 1)) hrg, ← heap_setCell_other _ ⟨g, j * 3 + 1, none⟩ rb (.bool true) hrg, ← heap_setCell_other _ ⟨g, j * 3 + 2, none⟩ rb (.int .i64 x) hrg] at hB2
        obtain ⟨k0, k1⟩ := two_cells hB2 (.int .i64 j) (.int .i64 (rg + 1))
        refine bodyPost_ret_by (results_hd rfl _ (b := rb) (x := .int .i64 j) (y := .int .i64 (rg + 1)) (Try.isAgg38 _) (Try.sizeOf38 _) rfl k0 k1) rfl ?_
        have hF : Fr (fun q => q = g) w (((wr.setCell ⟨g, j * 3, none⟩ (.int .i64 (rg + 1))).setCell ⟨g, j * 3 + 1, none⟩ (.bool true)).setCell ⟨g, j * 3 + 2, none⟩ (.int .i64 x)) :=
          ((hF0.no.trans (Fr.setCell (fun q => q = g) _ ⟨g, j * 3, none⟩ _ rfl)).trans (Fr.setCell (fun q => q = g) _ ⟨g, j * 3 + 1, none⟩ _ rfl)).trans (Fr.setCell (fun q => q = g) _ ⟨g, j * 3 + 2, none⟩ _ rfl)
        have hT := two_fr (w := ((wr.setCell ⟨g, j * 3, none⟩ (.int .i64 (rg + 1))).setCell ⟨g, j * 3 + 1, none⟩ (.bool true)).setCell ⟨g, j * 3 + 2, none⟩ (.int .i64 x)) (rb := rb) (.int .i64 j) (.int .i64 (rg + 1))
        refine ⟨rfl, (p3.keep (hT.block xb p3.xlt hxr) (hT.block g p3.glt hgr)).frNo (Fr.drew No _), (hF.ofNew hT fun q hq => .inr (by have := HRB.out; omega)).trans (Fr.drew _ _)⟩)

end Go.Proofs.Ytgelgnakhghpkaa
