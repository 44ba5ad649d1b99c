/-
  CONTRACTS of Get of the arena of endpoints, over this seat's translation: what each call returns, what it leaves in memory; an endpoint that came in.
  Conditions: the arena lies in memory as ArenaAt says.
-/
import Derived.Test.YtgelgnakhghpkaaP4
namespace Go.Proofs.Ytgelgnakhghpkaa.P
open Go.ChangeShapes Go.WideShapes Go.ChangeAt Go.RowKit
set_option linter.unusedVariables false

theorem results_ep {P : Program} {fn : Func} (h : fn.results = #[.cell 4 52, .tmp 5]) (tmps : Array Value) {w : World} {b : Nat} {x y : Value} (hg : Sem.run P (isAgg 52) w = .ok true w) (hz : Sem.run P (Go.sizeOf 52) w = .ok 2 w)
    (hp : tmps.getD 4 undef = .pointer (some ⟨b, 0, none⟩)) (h0 : w.cell? ⟨b, 0, none⟩ = some x) (h1 : w.cell? ⟨b, 1, none⟩ = some y) :
    (results fn tmps).run P w = .ok (.tuple #[.agg #[x, y], tmps.getD 5 undef]) w := by
  simp only [results, h]
  simp [Sem.run_bind, Result.andThen, loadVar, loadCells] at hp ⊢
  simp [hp, asAddr, hg, hz, loadCellsFrom, Go.WideShapes.add_plain, h0, h1]

set_option maxHeartbeats 1000000 in
set_option maxRecDepth 100000 in
theorem get_miss (S : Nat → Prop) (hb : Nat) (A : List Slot) (size : Nat) (B ix gn : Int) (w : World) (h : AI S w hb A size B) (hl : ∀ i s, ¬ Live A ix gn i s) :
    Calls Try.prog 24 #[.pointer (some ⟨hb, 0, none⟩), .agg #[.int .i64 ix, .int .i64 gn]] w fun e w' => e = .returned (.tuple #[.agg #[.int .i64 0, .int .i64 0], .bool false]) ∧ Fr No w w' := by
  have hl4 : A.length ≤ 4096 := Nat.le_trans h.good.len h.good.size
  obtain ⟨⟨sv, hr, _⟩, _⟩ := h
  have hF : Fr No w ((w.alloc (.cells #[.int .i64 ix, .int .i64 gn] 38)).alloc (.cells #[.int .i64 0, .int .i64 0] 52)) := (Fr.alloc No w _).trans (Fr.alloc No _ _)
  have HS := Lib.hid (And.intro (hr.frNo hF) (And.intro hl4 (And.intro hl hF)))
  clear hr hl hl4 hF
  go_enter Try.func24, Try.ntmps24
  go_wp2_with fail
  refine (find_miss hb sv A size (cnt A) ix gn _ HS.out.1 HS.out.2.1 HS.out.2.2.1).mono ?_
  rintro e w1 ⟨rfl, hf1⟩
  obtain ⟨rb, hrb⟩ : ∃ rb, rb = w.heap.size + 1 := ⟨_, rfl⟩
  have hB1 : w1.heap[rb]? = some (.cells #[.int .i64 0, .int .i64 0] 52 (0, 0)) := by rw [hrb]; exact (hf1.block _ (by simp) (fun h => h)).trans (heap_alloc2_new w _ _)
  have hB2 : (w1.alloc (.cells #[.int .i64 0, .int .i64 0] 52)).heap[rb]? = some (.cells #[.int .i64 0, .int .i64 0] 52 (0, 0)) := (Below.heap_alloc _ _ _ (Array.getElem?_eq_some_iff.1 hB1).1).trans hB1
  rw [← hrb]
  have r0 : (w1.alloc (.cells #[.int .i64 0, .int .i64 0] 52)).cell? ⟨rb, 0, none⟩ = some (.int .i64 0) := by rw [cell_of_row _ _ 0 _ _ _ hB2]; rfl
  have r1 : (w1.alloc (.cells #[.int .i64 0, .int .i64 0] 52)).cell? ⟨rb, 1, none⟩ = some (.int .i64 0) := by rw [cell_of_row _ _ 1 _ _ _ hB2]; rfl
  have z0 : (w1.alloc (.cells #[.int .i64 0, .int .i64 0] 52)).frozen? ⟨rb, 0, none⟩ = false := frozen_of_row _ _ _ _ _ hB2
  have z1 : (w1.alloc (.cells #[.int .i64 0, .int .i64 0] 52)).frozen? ⟨rb, 1, none⟩ = false := frozen_of_row _ _ _ _ _ hB2
  have H1 := Lib.hid (And.intro hf1 (And.intro hB2 hrb))
  clear hf1 hB1 hB2 hrb
  go_wp2_with fail
  obtain ⟨hf1, hB2, hrb⟩ := H1.out
  obtain ⟨k0, k1⟩ := two_cells hB2 (.int .i64 0) (.int .i64 0)
  refine bodyPost_ret_by (results_ep rfl _ (b := rb) (x := .int .i64 0) (y := .int .i64 0) (Try.isAgg52 _) (Try.sizeOf52 _) rfl k0 k1) rfl ?_
  exact ⟨rfl, ((HS.out.2.2.2.trans hf1).trans (Fr.alloc No _ _)).ofNew (two_fr _ _) fun k hk => .inr (by omega)⟩

set_option maxHeartbeats 1000000 in
set_option maxRecDepth 100000 in
theorem get_hit (S : Nat → Prop) (hb : Nat) (A : List Slot) (size : Nat) (B ix gn : Int) (i : Nat) (x y : Int) (w : World) (h : AI S w hb A size B) (hl : Live A ix gn i ⟨true, gn, [.int .i64 x, .int .i64 y]⟩) :
    Calls Try.prog 24 #[.pointer (some ⟨hb, 0, none⟩), .agg #[.int .i64 ix, .int .i64 gn]] w fun e w' => e = .returned (.tuple #[.agg #[.int .i64 x, .int .i64 y], .bool true]) ∧ Fr No w w' := by
  have hl4 : A.length ≤ 4096 := Nat.le_trans h.good.len h.good.size
  have hi := hl.2.1
  have hil : i < A.length := (List.getElem?_eq_some_iff.1 hi).1
  obtain ⟨⟨sv, hr, _⟩, _⟩ := h
  obtain ⟨n, hn⟩ : ∃ n, A.length = n := ⟨_, rfl⟩
  obtain ⟨g, cap, rfl⟩ := hr.form (by omega)
  rw [hn] at hr hl4 hil
  have hgl : g < w.heap.size := hr.own_lt own_row
  have hF : Fr No w ((w.alloc (.cells #[.int .i64 ix, .int .i64 gn] 38)).alloc (.cells #[.int .i64 0, .int .i64 0] 52)) := (Fr.alloc No w _).trans (Fr.alloc No _ _)
  have HS := Lib.hid (And.intro (hr.frNo hF) (And.intro hl4 (And.intro hl (And.intro hn (And.intro hi hF)))))
  clear hr hl hl4 hn hi hF
  go_enter Try.func24, Try.ntmps24
  go_wp2_with fail
  refine (find_hit hb g n cap A size (cnt A) ix gn i _ _ HS.out.1 HS.out.2.2.2.1 HS.out.2.1 HS.out.2.2.1).mono ?_
  rintro e w1 ⟨rfl, hf1⟩
  have e2 := (HS.out.1.frNo hf1).ecells HS.out.2.2.2.2.1 2 _ rfl
  have e3 := (HS.out.1.frNo hf1).ecells HS.out.2.2.2.2.1 3 _ rfl
  obtain ⟨rb, hrb⟩ : ∃ rb, rb = w.heap.size + 1 := ⟨_, rfl⟩
  have hB1 : w1.heap[rb]? = some (.cells #[.int .i64 0, .int .i64 0] 52 (0, 0)) := by rw [hrb]; exact (hf1.block _ (by simp) (fun h => h)).trans (heap_alloc2_new w _ _)
  rw [← hrb]
  have r0 : w1.cell? ⟨rb, 0, none⟩ = some (.int .i64 0) := by rw [cell_of_row _ _ 0 _ _ _ hB1]; rfl
  have r1 : w1.cell? ⟨rb, 1, none⟩ = some (.int .i64 0) := by rw [cell_of_row _ _ 1 _ _ _ hB1]; rfl
  have z0 : w1.frozen? ⟨rb, 0, none⟩ = false := frozen_of_row _ _ _ _ _ hB1
  have z1 : w1.frozen? ⟨rb, 1, none⟩ = false := frozen_of_row _ _ _ _ _ hB1
  have H1 := Lib.hid (And.intro hf1 (And.intro hB1 hrb))
  clear hf1 hB1 hrb
  go_wp2_with fail
  obtain ⟨hf1, hB2, hrb⟩ := H1.out
  obtain ⟨k0, k1⟩ := two_cells hB2 (.int .i64 x) (.int .i64 y)
  refine bodyPost_ret_by (results_ep rfl _ (b := rb) (x := .int .i64 x) (y := .int .i64 y) (Try.isAgg52 _) (Try.sizeOf52 _) rfl k0 k1) rfl ?_
  exact ⟨rfl, (HS.out.2.2.2.2.2.trans hf1).ofNew (two_fr _ _) fun k hk => .inr (by omega)⟩

end Go.Proofs.Ytgelgnakhghpkaa.P
