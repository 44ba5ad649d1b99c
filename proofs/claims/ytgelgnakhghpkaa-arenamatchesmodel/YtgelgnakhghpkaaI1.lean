/-
  CONTRACTS of New, Len, Cap, firstFree and find of the arena of integers, over this seat's translation: what each call returns, what it leaves in memory.
  Conditions: the arena lies in memory as ArenaAt says.
-/
import Derived.Test.YtgelgnakhghpkaaMem
import Derived.BigQuiet
namespace Go.Proofs.Ytgelgnakhghpkaa.I
open Go.ChangeShapes Go.WideShapes Go.ChangeAt Go.RowKit
set_option linter.unusedVariables false

def V (l : List Value) : Prop := ∃ x, l = [Value.int .i64 x]
def zs : List Value := [.int .i64 0]
theorem zs_ok : V zs := ⟨0, rfl⟩
abbrev RA := Raw 64 73 3
abbrev AI := ArenaAt V 64 73 3

theorem new_ok (S : Nat → Prop) (n : Nat) (w : World) (h1 : 1 ≤ n) (h2 : n ≤ 4096) (hS : ∀ k, w.heap.size ≤ k → S k) :
    Calls Try.prog 7 #[.int .i64 n] w fun e w' => ∃ hb, e = .returned (.tuple #[.pointer (some ⟨hb, 0, none⟩), .int .i64 0]) ∧ w.heap.size ≤ hb ∧ AI S w' hb [] n 0 ∧ Fr No w w' := by
  have p1 : ¬ ((n : Int) < 1) := by omega
  have p2 : ¬ (4096 < (n : Int)) := by omega
  go_enter Try.func7, Try.ntmps7
  go_wp2
  go_ret2
  refine ⟨w.heap.size, rfl, Nat.le_refl _, ⟨⟨.slice none 0 0, ⟨heap_alloc_new w _, World.ownsRow_nil _ _ _ _, by simp [Value.ownBlock], fun s hs => by simp at hs⟩, ?_⟩, ⟨fun s hs => by simp at hs, fun s hs => by simp at hs, Nat.zero_le _, h2⟩⟩, Fr.alloc _ _ _⟩
  rintro k (rfl | hk)
  · exact hS _ (Nat.le_refl _)
  · simp [Value.ownBlock] at hk

theorem new_bad (n : Int) (w : World) (h : n < 1 ∨ 4096 < n) :
    Calls Try.prog 7 #[.int .i64 n] w fun e w' => e = .returned (.tuple #[.pointer none, .int .i64 1]) ∧ w' = w := by
  by_cases p1 : n < 1
  · go_enter Try.func7, Try.ntmps7
    go_wp2
    go_ret2
    exact ⟨rfl, rfl⟩
  · have p2 : 4096 < n := by omega
    go_enter Try.func7, Try.ntmps7
    go_wp2
    go_ret2
    exact ⟨rfl, rfl⟩

theorem cap_any (S : Nat → Prop) (hb : Nat) (A : List Slot) (size : Nat) (B : Int) (w : World) (h : AI S w hb A size B) :
    Calls Try.prog 9 #[.pointer (some ⟨hb, 0, none⟩)] w fun e w' => e = .returned (.int .i64 size) ∧ w' = w := by
  obtain ⟨⟨sv, hr, _⟩, _⟩ := h
  obtain ⟨c0, c1, c2⟩ := hr.hcell
  clear hr
  go_enter Try.func9, Try.ntmps9
  go_wp2
  go_ret
  exact ⟨rfl, rfl⟩

theorem len_any (S : Nat → Prop) (hb : Nat) (A : List Slot) (size : Nat) (B : Int) (w : World) (h : AI S w hb A size B) :
    Calls Try.prog 10 #[.pointer (some ⟨hb, 0, none⟩)] w fun e w' => e = .returned (.int .i64 (cnt A : Nat)) ∧ w' = w := by
  obtain ⟨⟨sv, hr, _⟩, _⟩ := h
  obtain ⟨c0, c1, c2⟩ := hr.hcell
  clear hr
  go_enter Try.func10, Try.ntmps10
  go_wp2
  go_ret
  exact ⟨rfl, rfl⟩

set_option maxHeartbeats 1000000 in
set_option maxRecDepth 100000 in
theorem firstFree_any (hb : Nat) (sv : Value) (A : List Slot) (size : Nat) (w : World) (h : RA w hb sv A size (cnt A)) (hlen : A.length ≤ 4096) :
    Calls Try.prog 33 #[.pointer (some ⟨hb, 0, none⟩)] w fun e w' => ∃ i : Nat, e = .returned (.int .i64 i) ∧ Free A i ∧ Fr No w w' := by
  obtain ⟨c0, c1, c2⟩ := h.hcell
  obtain ⟨a, cap, rfl⟩ := h.any
  obtain ⟨n, hn⟩ : ∃ n, A.length = n := ⟨_, rfl⟩
  obtain ⟨c, hc⟩ : ∃ c, cnt A = c := ⟨_, rfl⟩
  rw [hn] at c0 h hlen
  rw [hc] at c2 h
  have hcn : c ≤ n := by rw [← hn, ← hc]; exact cnt_le A
  have HS := Lib.hid (And.intro h (And.intro hn hc))
  clear h hn hc
  by_cases hlt : c < n
  · have p1 : (c : Int) < (n : Int) := by omega
    go_enter Try.func33, Try.ntmps33
    go_wp2_with fail
    go_quiet (fail)
    go_wp2_with fail
    generalize hy : w.drewN _ = y
    have HY : Hid (RA y hb (.slice a n cap) A size c ∧ Fr No w y) := by
      subst hy
      exact ⟨HS.out.1.keep (fun _ _ => rfl), ⟨rfl, rfl, rfl, Nat.le_refl _, fun _ _ _ => rfl⟩⟩
    clear hy c0 c1 c2
    go_loopg [19] (n + 1) (fun g s wr => ∃ (i : Nat), s = .int .i64 i ∧ i ≤ n ∧ n - i < g ∧ Hid (wr = y ∧ ∀ (j : Nat) (s : Slot), j < i → A[j]? = some s → s.used = true))
    case atStart => exact ⟨0, by go_num, by omega, by omega, rfl, fun j s hj => by omega⟩
    case round =>
      obtain ⟨i, rfl, hin, hig, HR⟩ := hrel
      by_cases hi : i < n
      · obtain ⟨s, gs⟩ : ∃ s, A[i]? = some s := ⟨_, List.getElem?_eq_getElem (by have := HS.out.2.1; omega)⟩
        have hr := HY.out.1
        rw [← HR.out.1] at hr
        obtain ⟨g, cap', hv⟩ := hr.form (by have := HS.out.2.1; omega)
        obtain rfl : a = some ⟨g, 0, none⟩ := by cases hv; rfl
        obtain ⟨c0, c1, c2⟩ := hr.hcell
        have e0 := hr.ecells gs 0 _ rfl
        rw [Nat.add_zero] at e0
        have HG := Lib.hid gs
        have q1 : (0 : Int) ≤ (i : Int) := by omega
        have q2 : (i : Int) < (n : Int) := by omega
        clear hr hv gs
        obtain ⟨u, gen, val⟩ := s
        cases u with
        | true =>
          go_wp2_with fail
          go_roundg (n - i)
          case measure => exact hig
          case rel =>
            refine ⟨i + 1, by go_num, by omega, by omega, HR.out.1, fun j s hj hs => ?_⟩
            by_cases hji : j = i
            · subst hji; rw [HG.out] at hs; cases hs; rfl
            · exact HR.out.2 j s (by omega) hs
        | false =>
          go_wp2_with fail
          go_ret
          refine ⟨i, rfl, ⟨HR.out.2, fun _ => ⟨_, HG.out, rfl⟩, by have := HS.out.2.1; omega⟩, ?_⟩
          rw [HR.out.1]
          exact HY.out.2
      · exfalso
        obtain rfl : i = n := by omega
        have := cnt_all (A := A) (fun j s hs => HR.out.2 j s (by have := (List.getElem?_eq_some_iff.1 hs).1; have := HS.out.2.1; omega) hs)
        have h2 := HS.out.2
        omega
  · have p1 : ¬ ((c : Int) < (n : Int)) := by omega
    have p1' : decide ((c : Int) < (n : Int)) = false := decide_eq_false p1
    go_enter Try.func33, Try.ntmps33
    go_wp2_with fail
    go_quiet (fail)
    go_wp2_with fail
    go_ret
    refine ⟨n, rfl, ?_, ⟨rfl, rfl, rfl, Nat.le_refl _, fun _ _ _ => rfl⟩⟩
    obtain ⟨h, hn, hc⟩ := HS.out
    rw [← hn]
    exact Free.full (by omega)

/-- The slot that a handle refers to. -/
def Live (A : List Slot) (ix gn : Int) (i : Nat) (s : Slot) : Prop := ix = i ∧ A[i]? = some s ∧ s.used = true ∧ s.gen = gn

set_option maxHeartbeats 1000000 in
set_option maxRecDepth 100000 in
theorem find_hit (hb g n cap : Nat) (A : List Slot) (size : Nat) (c ix gn : Int) (i : Nat) (s : Slot) (w : World) (h : RA w hb (.slice (some ⟨g, 0, none⟩) n cap) A size c) (hn : A.length = n) (hlen : n ≤ 4096) (hl : Live A ix gn i s) :
    Calls Try.prog 34 #[.pointer (some ⟨hb, 0, none⟩), .agg #[.int .i64 ix, .int .i64 gn]] w fun e w' => e = .returned (.pointer (some ⟨g, i * 3, none⟩)) ∧ Fr No w w' := by
  obtain ⟨rfl, hi, hu, rfl⟩ := hl
  have hil : i < A.length := (List.getElem?_eq_some_iff.1 hi).1
  have hr := h.frNo (Fr.alloc No w (.cells #[.int .i64 (i : Int), .int .i64 s.gen] 38))
  obtain ⟨c0, -, -⟩ := hr.hcell
  have e0 := hr.ecells hi 0 _ rfl
  have e1 := hr.ecells hi 1 _ rfl
  rw [Nat.add_zero] at e0
  rw [hu] at e0
  generalize s.gen = gn at *
  have q1 : (0 : Int) ≤ (i : Int) := by omega
  have q2 : (i : Int) < (n : Int) := by omega
  have q3 : decide ((i : Int) < 0) = false := decide_eq_false (by omega)
  clear h hr hn hi hu
  go_enter Try.func34, Try.ntmps34
  go_wp2_with fail
  go_quiet (fail)
  go_wp2_with fail
  go_quiet (fail)
  go_wp2_with fail
  go_quiet (fail)
  go_wp2_with fail
  go_ret
  refine ⟨rfl, ⟨rfl, rfl, rfl, ?_, ?_⟩⟩
  · simp [World.drewN]
  · intro k hk _
    exact Below.heap_alloc _ _ _ hk

end Go.Proofs.Ytgelgnakhghpkaa.I
