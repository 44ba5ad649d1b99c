/-
  CONTRACTS of New, Len, Free, Cap, slot and run of the ring buffer of integers, over this seat's translation: what each call returns, what it leaves in memory.
  Conditions: the ring buffer lies in memory as RingAt or Raw says.
-/
import Derived.Test.YtmgpeonnmfidhaaLaws
namespace Go.Proofs.Ytmgpeonnmfidhaa
open Go.ChangeShapes Go.WideShapes Go.ChangeAt Go.RowKit
set_option linter.unusedVariables false

theorem new_ok (S : Nat → Prop) (n : Nat) (w : World) (h1 : 1 ≤ n) (h2 : n ≤ 4096) (hS : ∀ k, w.heap.size ≤ k → S k) :
    Calls Try.prog 13 #[.int .i64 n] w fun e w' => ∃ hb, e = .returned (.tuple #[.pointer (some ⟨hb, 0, none⟩), .int .i64 0]) ∧ w.heap.size ≤ hb ∧ RingAt S w' hb [] n ∧ Fr No w w' := by
  have p1 : ¬ ((n : Int) < 1) := by omega
  have p2 : ¬ (4096 < (n : Int)) := by omega
  go_enter Try.func13, Try.ntmps13
  go_wp2
  go_ret2
  refine ⟨w.heap.size, rfl, Nat.le_refl _, ⟨.slice none 0 0, [], 0, ⟨heap_alloc_new w _, .inl ⟨rfl, rfl⟩⟩, ⟨Nat.zero_le _, h2, .inr ⟨rfl, rfl⟩, Nat.le_refl _, fun i hi => by simp at hi⟩, ?_⟩, Fr.alloc _ _ _⟩
  rintro k (rfl | hk)
  · exact hS _ (Nat.le_refl _)
  · simp [Value.ownBlock] at hk

theorem len_any (S : Nat → Prop) (hb : Nat) (Q : List Int) (size : Nat) (w : World) (h : RingAt S w hb Q size) :
    Calls Try.prog 18 #[.pointer (some ⟨hb, 0, none⟩)] w fun e w' => e = .returned (.int .i64 (Q.length : Nat)) ∧ w' = w := by
  obtain ⟨sv, L, f, hr, _⟩ := h
  obtain ⟨c0, c1, c2, c3⟩ := hr.hcell
  clear hr
  go_enter Try.func18, Try.ntmps18
  go_wp2
  go_ret
  exact ⟨rfl, rfl⟩

theorem cap_any (S : Nat → Prop) (hb : Nat) (Q : List Int) (size : Nat) (w : World) (h : RingAt S w hb Q size) :
    Calls Try.prog 20 #[.pointer (some ⟨hb, 0, none⟩)] w fun e w' => e = .returned (.int .i64 (size : Nat)) ∧ w' = w := by
  obtain ⟨sv, L, f, hr, _⟩ := h
  obtain ⟨c0, c1, c2, c3⟩ := hr.hcell
  clear hr
  go_enter Try.func20, Try.ntmps20
  go_wp2
  go_ret
  exact ⟨rfl, rfl⟩

theorem free_any (S : Nat → Prop) (hb : Nat) (Q : List Int) (size c m : Nat) (w : World) (h : RingAt S w hb Q size) (hc : Q.length = c) (hm : size - c = m) :
    Calls Try.prog 19 #[.pointer (some ⟨hb, 0, none⟩)] w fun e w' => e = .returned (.int .i64 (m : Nat)) ∧ Fr No w w' := by
  obtain ⟨h1, h2⟩ := h.len
  obtain ⟨sv, L, f, hr, _⟩ := h
  obtain ⟨c0, c1, c2, c3⟩ := hr.hcell
  rw [hc] at c2 h1
  have e1 : (size : Int) - (c : Int) = (m : Int) := by omega
  clear hr hc hm
  go_enter Try.func19, Try.ntmps19
  go_wp2_with fail
  go_quiet (fail)
  go_wp2_with fail
  go_ret
  exact ⟨rfl, Fr.drewN _ _ _⟩

theorem slot_any (hb : Nat) (a : Option Addr) (n : Nat) (L : List Int) (f c size i : Nat) (w : World) (h : Raw w hb (.slice a n n) L f c size) (hn : n ≤ 4096) (hf : f ≤ n) (hi : i ≤ n) :
    Calls Try.prog 29 #[.pointer (some ⟨hb, 0, none⟩), .int .i64 i] w fun e w' => e = .returned (.int .i64 (ix n f i : Nat)) ∧ w' = w := by
  obtain ⟨c0, c1, c2, c3⟩ := h.hcell
  clear h
  obtain ⟨k, hk⟩ : ∃ k, ix n f i = k := ⟨_, rfl⟩
  rw [hk]
  obtain ⟨s, hs⟩ : ∃ s, s = i + f := ⟨_, rfl⟩
  have e0 : (i : Int) + (f : Int) = (s : Int) := by omega
  by_cases h1 : n ≤ s
  · have p1 : (n : Int) ≤ (s : Int) := by omega
    have hk' : (s : Int) - (n : Int) = (k : Int) := by rw [← hk]; unfold ix; rw [if_neg (by omega)]; omega
    have hs2 : s ≤ 8192 := by omega
    clear hk h1 hs
    go_enter Try.func29, Try.ntmps29
    go_wp2
    go_ret
    exact ⟨rfl, rfl⟩
  · have p1 : ¬ ((n : Int) ≤ (s : Int)) := by omega
    have hk' : s = k := by rw [← hk]; unfold ix; rw [if_pos (by omega)]; omega
    have hs2 : s ≤ 8192 := by omega
    have HK := Lib.hid hk'
    clear hk h1 hs hk'
    go_enter Try.func29, Try.ntmps29
    go_wp2
    go_ret
    exact ⟨by rw [HK.out]; rfl, rfl⟩

set_option maxHeartbeats 1000000 in
set_option maxRecDepth 100000 in
/-- The two pieces of a ring's row where n elements from element i on lie. -/
theorem run_any (hb : Nat) (sv : Value) (L : List Int) (f c size i n N s h t : Nat) (w : World) (hr : Raw w hb sv L f c size) (hN : L.length = N) (h4 : N ≤ 4096) (hf : f < N ∨ (f = 0 ∧ N = 0)) (hi : i ≤ N) (hn : n ≤ N) (hs : ix N f i = s) (hh : h = min n (N - s)) (ht : h + t = n) :
    Calls Try.prog 26 #[.pointer (some ⟨hb, 0, none⟩), .int .i64 i, .int .i64 n] w fun e w' => ∃ a1 c1 a2 c2, e = .returned (.tuple #[.slice a1 h c1, .slice a2 t c2]) ∧ h ≤ c1 ∧ t ≤ c2 ∧ (a1 = none → c1 = 0) ∧ (a2 = none → c2 = 0) ∧
      (0 < h → ∃ g, sv = .slice (some ⟨g, 0, none⟩) L.length L.length ∧ a1 = some ⟨g, s, none⟩) ∧ (0 < t → ∃ g, sv = .slice (some ⟨g, 0, none⟩) L.length L.length ∧ a2 = some ⟨g, 0, none⟩) ∧ Fr No w w' := by
  have hs1 : s < N ∨ (s = 0 ∧ N = 0) := by rw [← hs]; unfold ix; split <;> omega
  obtain ⟨u, hu⟩ : ∃ u, u = s + n := ⟨_, rfl⟩
  have e0 : (s : Int) + (n : Int) = (u : Int) := by omega
  have hu4 : u ≤ 10000 := by omega
  obtain ⟨a, hsv⟩ := hr.any
  have hf4 : f ≤ N := by omega
  rcases hr.row with ⟨h1, h2⟩ | ⟨g, h1, h2, h3, h5⟩
  · subst h1
    have hN0 : N = 0 := by rw [← hN, h2]; rfl
    subst hN0
    obtain rfl : n = 0 := by omega
    obtain rfl : i = 0 := by omega
    obtain rfl : s = 0 := by omega
    obtain rfl : h = 0 := by omega
    obtain rfl : t = 0 := by omega
    obtain ⟨c0, c1, c2, c3⟩ := hr.hcell
    have HS := Lib.hid (And.intro hr (And.intro hN hs))
    clear hr hN hs hh ht hsv h2 hu hs1 e0
    go_enter Try.func26, Try.ntmps26
    go_wp2_with fail
    refine (slot_any hb none 0 L f c size 0 _ HS.out.1 h4 hf4 hi).mono ?_
    rintro e' w1 ⟨rfl, hw⟩
    have hw' := hw.symm
    subst hw'
    rw [HS.out.2.2]
    go_wp2_with fail
    go_quiet (fail)
    go_wp2_with fail
    go_ret2
    exact ⟨none, 0, none, 0, rfl, Nat.le_refl _, Nat.le_refl _, fun _ => rfl, fun _ => rfl, (fun h => by omega), (fun h => by omega), Fr.drewN _ _ _⟩
  · rw [hN] at h1 h3
    have hsN : s < N := by omega
    have hg1 : Value.slice (some ⟨g, 0, none⟩) N N = Value.slice (some ⟨g, 0, none⟩) L.length L.length := by rw [hN]
    subst h1
    obtain ⟨c0, c1, c2, c3⟩ := hr.hcell
    have HS := Lib.hid (And.intro hr (And.intro hN (And.intro hs hg1)))
    have ps : (s : Int) ≤ (u : Int) := by omega
    by_cases hA : u ≤ N
    · have pA : (u : Int) ≤ (N : Int) := by omega
      obtain rfl : h = n := by omega
      obtain rfl : t = 0 := by omega
      have q3 : (u : Int) - (s : Int) = (h : Int) := by omega
      have q4 : u - s = h := by omega
      have hne : s ≠ N := by omega
      clear hr hN hs hh ht hsv h2 hu hs1 hg1
      go_enter Try.func26, Try.ntmps26
      go_wp2_with fail
      refine (slot_any hb _ N L f c size i _ HS.out.1 h4 hf4 hi).mono ?_
      rintro e' w1 ⟨rfl, hw⟩
      have hw' := hw.symm
      subst hw'
      rw [HS.out.2.2.1]
      go_wp2_with fail
      go_quiet (fail)
      go_wp2_with fail
      go_ret2
      exact ⟨some ⟨g, s, none⟩, N - s, some ⟨g, 0, none⟩, N, rfl, by omega, by omega, (fun h => by cases h), (fun h => by cases h), (fun _ => ⟨g, HS.out.2.2.2, rfl⟩), (fun h => by omega), Fr.drewN _ _ _⟩
    · have pA : (N : Int) < (u : Int) := by omega
      have q3 : (N : Int) - (s : Int) = (h : Int) := by omega
      have q5 : (n : Int) - (h : Int) = (t : Int) := by omega
      have q4 : N - s = h := by omega
      have hne : s ≠ N := by omega
      have q6 : (s : Int) ≤ (N : Int) := by omega
      have q7 : (t : Int) ≤ (N : Int) := by omega
      have q8 : h ≤ N - s := by omega
      clear hr hN hs hh ht hsv h2 hu hs1 hg1
      go_enter Try.func26, Try.ntmps26
      go_wp2_with fail
      refine (slot_any hb _ N L f c size i _ HS.out.1 h4 hf4 hi).mono ?_
      rintro e' w1 ⟨rfl, hw⟩
      have hw' := hw.symm
      subst hw'
      rw [HS.out.2.2.1]
      go_wp2_with fail
      go_quiet (fail)
      go_wp2_with fail
      go_ret2
      exact ⟨some ⟨g, s, none⟩, h, some ⟨g, 0, none⟩, N, rfl, by omega, by omega, (fun h => by cases h), (fun h => by cases h), (fun _ => ⟨g, HS.out.2.2.2, rfl⟩), (fun _ => ⟨g, HS.out.2.2.2, rfl⟩), Fr.drewN _ _ _⟩

end Go.Proofs.Ytmgpeonnmfidhaa
