/-
  CONTRACT of Peek, over this seat's translation: it returns a copy of the first elements and changes nothing.
  Conditions: the ring buffer lies in memory as RingAt says.
-/
import Derived.Test.YtmgpeonnmfidhaaR2
namespace Go.Proofs.Ytmgpeonnmfidhaa
open Go.ChangeShapes Go.WideShapes Go.ChangeAt Go.RowKit
set_option linter.unusedVariables false

theorem row_base {w : World} {e : TypeId} {K : Nat} {sv : Value} {xs : List Value} {m base base' : Nat} (h : w.ownsRow base' e K sv m xs) (hb : base ≤ base') : w.ownsRow base e K sv m xs := by
  refine ⟨h.1, ?_⟩
  rcases h.2 with h1 | ⟨g, cap, cur, hv, hb', hr⟩
  · exact .inl h1
  · exact .inr ⟨g, cap, cur, hv, Nat.le_trans hb hb', hr⟩

theorem view_take {L Q : List Int} {f size m s h t : Nat} (hg : Sound L f Q size) (hm : m ≤ Q.length) (hs : ix L.length f 0 = s) (hh : h = min m (L.length - s)) (ht : h + t = m) : (L.drop s).take h ++ L.take t = Q.take m := by
  obtain ⟨h1, h2, h3, h4, h5⟩ := hg
  have hs' : f = s := by rw [← hs]; unfold ix; split <;> omega
  subst hs'
  have hl : ((L.drop f).take h).length = h := by rw [List.length_take, List.length_drop]; omega
  apply List.ext_getElem?
  intro i
  rw [List.getElem?_take]
  by_cases hi : i < m
  · rw [if_pos hi, ← h5 i (by omega)]
    by_cases hih : i < h
    · rw [List.getElem?_append_left (by omega), List.getElem?_take, if_pos hih, List.getElem?_drop]
      unfold ix
      rw [if_pos (by omega)]
    · rw [List.getElem?_append_right (by omega), hl, List.getElem?_take, if_pos (by omega)]
      unfold ix
      rw [if_neg (by omega)]
      congr 1
      omega
  · rw [if_neg hi]
    apply List.getElem?_eq_none
    rw [List.length_append, hl, List.length_take]
    omega

theorem raw_head {w : World} {hb : Nat} {sv : Value} {L : List Int} {f c size s h : Nat} {a : Option Addr} (hr : Raw w hb sv L f c size) (ha : 0 < h → ∃ g, sv = .slice (some ⟨g, 0, none⟩) L.length L.length ∧ a = some ⟨g, s, none⟩) (hfit : s + h ≤ L.length) : At w a ((L.drop s).take h) ∧ ((L.drop s).take h).length = h := by
  refine ⟨?_, by rw [List.length_take, List.length_drop]; omega⟩
  by_cases h0 : h = 0
  · subst h0
    rw [List.take_zero]
    exact At.nil _ _
  · obtain ⟨g, hv, rfl⟩ := ha (by omega)
    obtain ⟨g', hv', hg, _⟩ := hr.form (by omega)
    rw [hv] at hv'
    cases hv'
    have := ((At.block hg).drop s).take h
    simpa using this

set_option maxHeartbeats 1000000 in
set_option maxRecDepth 100000 in
theorem peek_any (S : Nat → Prop) (hb : Nat) (Q : List Int) (size c m : Nat) (n : Int) (w : World) (hR : RingAt S w hb Q size) (hc : Q.length = c) (hm : max 0 (min n (c : Int)) = (m : Int)) :
    Calls Try.prog 17 #[.pointer (some ⟨hb, 0, none⟩), .int .i64 n] w fun e w' => ∃ a cap, e = .returned (.slice a m cap) ∧ w'.ownsRow w.heap.size 3 1 (.slice a m cap) m (ints (Q.take m)) ∧ Fr No w w' := by
  obtain ⟨sv, L, f, hr, hg, hS⟩ := hR
  obtain ⟨s, hs⟩ : ∃ s, ix L.length f 0 = s := ⟨_, rfl⟩
  obtain ⟨h, hh⟩ : ∃ h, h = min m (L.length - s) := ⟨_, rfl⟩
  obtain ⟨t, ht⟩ : ∃ t, h + t = m := ⟨m - h, by omega⟩
  have hmc : m ≤ c := by omega
  have hcN := hg.count
  have h4 : L.length ≤ 4096 := Nat.le_trans hg.len hg.size
  rw [hc] at hr hcN
  obtain ⟨c0, c1, c2, c3⟩ := hr.hcell
  have hsN : s < L.length ∨ (s = 0 ∧ L.length = 0) := by have := hg.first; rw [← hs]; unfold ix; split <;> omega
  have HS := Lib.hid (And.intro hr (And.intro hg (And.intro hs (And.intro hh (And.intro ht (And.intro hc (And.intro hsN (And.intro hcN h4))))))))
  have hcc : c ≤ 4096 := by omega
  clear hr hg hs hh ht hc hsN hcN h4
  have HW : Hid (∀ (w1 : World) (a1 a2 : Option Addr) (c1 c2 : Nat), Fr No w w1 → (0 < h → ∃ g, sv = .slice (some ⟨g, 0, none⟩) L.length L.length ∧ a1 = some ⟨g, s, none⟩) → (0 < t → ∃ g, sv = .slice (some ⟨g, 0, none⟩) L.length L.length ∧ a2 = some ⟨g, 0, none⟩) → (a1 = none → c1 = 0) → (a2 = none → c2 = 0) →
      Calls Try.prog 30 #[.slice (some ⟨w1.heap.size, 0, none⟩) 2 2] (w1.alloc (.cells #[.slice a1 h c1, .slice a2 t c2] 34)) fun e w' => ∃ a cap, e = .returned (.slice a m cap) ∧ w'.ownsRow w.heap.size 3 1 (.slice a m cap) m (ints (Q.take m)) ∧ Fr No w w') := by
    intro w1 a1 a2 c1 c2 hf h1 h2 h3 h5
    obtain ⟨hr, hg, hs, hh, ht, hc, hsN, hcN, h4⟩ := HS.out
    have hr1 := hr.frNo hf
    have hfa : Fr No w1 (w1.alloc (.cells #[.slice a1 h c1, .slice a2 t c2] 34)) := Fr.alloc _ _ _
    obtain ⟨x1, x2⟩ := raw_head (s := s) hr1 h1 (by omega)
    have h2' : 0 < t → ∃ g, sv = .slice (some ⟨g, 0, none⟩) L.length L.length ∧ a2 = some ⟨g, 0, none⟩ := h2
    obtain ⟨y1, y2⟩ := raw_head (s := 0) hr1 h2' (by omega)
    rw [List.drop_zero] at y1 y2
    refine (concat_two w1.heap.size h t c1 c2 m a1 a2 _ _ _ (heap_alloc_new w1 _) (x1.frNo hfa) (y1.frNo hfa) x2 y2 h3 h5 ht (by omega)).mono ?_
    rintro e w2 ⟨a, cap, rfl, hown, hf2⟩
    rw [view_take hg (by omega) hs hh ht] at hown
    refine ⟨a, cap, rfl, row_base hown ?_, (hf.trans hfa).trans hf2⟩
    have := hf.size
    simp
    omega
  by_cases p1 : n ≤ 0
  · obtain rfl : m = 0 := by omega
    have q1 : ¬ ((c : Int) < n) := by omega
    have q2 : ¬ ((0 : Int) < n) := by omega
    clear hm
    go_enter Try.func17, Try.ntmps17
    go_wp2_with fail
    refine (run_any hb sv L f c size 0 0 L.length s h t _ HS.out.1 rfl HS.out.2.2.2.2.2.2.2.2 HS.out.2.1.first (Nat.zero_le _) (by have := HS.out.2.2.2.2.2.2.2.1; omega) HS.out.2.2.1 HS.out.2.2.2.1 HS.out.2.2.2.2.1).mono ?_
    rintro e w1 ⟨a1, k1, a2, k2, rfl, -, -, hn1, hn2, ha1, ha2, hf1⟩
    have H1 := Lib.hid (HW.out w1 a1 a2 k1 k2 hf1 ha1 ha2 hn1 hn2)
    clear hf1 ha1 ha2 hn1 hn2 HW
    go_wp2_with fail
    refine H1.out.mono ?_
    rintro e w2 ⟨a, cap, rfl, hown, hf⟩
    have H2 := Lib.hid (And.intro hown hf)
    clear hown hf H1
    go_wp2_with fail
    go_ret
    exact ⟨a, cap, rfl, H2.out.1, H2.out.2⟩
  · by_cases p2 : n ≤ (c : Int)
    · obtain rfl : n = (m : Int) := by omega
      have q1 : ¬ ((c : Int) < (m : Int)) := by omega
      have q2 : (0 : Int) < (m : Int) := by omega
      clear hm
      go_enter Try.func17, Try.ntmps17
      go_wp2_with fail
      refine (run_any hb sv L f c size 0 m L.length s h t _ HS.out.1 rfl HS.out.2.2.2.2.2.2.2.2 HS.out.2.1.first (Nat.zero_le _) (by have := HS.out.2.2.2.2.2.2.2.1; omega) HS.out.2.2.1 HS.out.2.2.2.1 HS.out.2.2.2.2.1).mono ?_
      rintro e w1 ⟨a1, k1, a2, k2, rfl, -, -, hn1, hn2, ha1, ha2, hf1⟩
      have H1 := Lib.hid (HW.out w1 a1 a2 k1 k2 hf1 ha1 ha2 hn1 hn2)
      clear hf1 ha1 ha2 hn1 hn2 HW
      go_wp2_with fail
      refine H1.out.mono ?_
      rintro e w2 ⟨a, cap, rfl, hown, hf⟩
      have H2 := Lib.hid (And.intro hown hf)
      clear hown hf H1
      go_wp2_with fail
      go_ret
      exact ⟨a, cap, rfl, H2.out.1, H2.out.2⟩
    · have q1 : (c : Int) < n := by omega
      obtain rfl : m = c := by omega
      clear hm
      by_cases p3 : m = 0
      · subst p3
        go_enter Try.func17, Try.ntmps17
        go_wp2_with fail
        refine (run_any hb sv L f 0 size 0 0 L.length s h t _ HS.out.1 rfl HS.out.2.2.2.2.2.2.2.2 HS.out.2.1.first (Nat.zero_le _) (by have := HS.out.2.2.2.2.2.2.2.1; omega) HS.out.2.2.1 HS.out.2.2.2.1 HS.out.2.2.2.2.1).mono ?_
        rintro e w1 ⟨a1, k1, a2, k2, rfl, -, -, hn1, hn2, ha1, ha2, hf1⟩
        have H1 := Lib.hid (HW.out w1 a1 a2 k1 k2 hf1 ha1 ha2 hn1 hn2)
        clear hf1 ha1 ha2 hn1 hn2 HW
        go_wp2_with fail
        refine H1.out.mono ?_
        rintro e w2 ⟨a, cap, rfl, hown, hf⟩
        have H2 := Lib.hid (And.intro hown hf)
        clear hown hf H1
        go_wp2_with fail
        go_ret
        exact ⟨a, cap, rfl, H2.out.1, H2.out.2⟩
      · have q2 : (0 : Int) < (m : Int) := by omega
        go_enter Try.func17, Try.ntmps17
        go_wp2_with fail
        refine (run_any hb sv L f m size 0 m L.length s h t _ HS.out.1 rfl HS.out.2.2.2.2.2.2.2.2 HS.out.2.1.first (Nat.zero_le _) (by have := HS.out.2.2.2.2.2.2.2.1; omega) HS.out.2.2.1 HS.out.2.2.2.1 HS.out.2.2.2.2.1).mono ?_
        rintro e w1 ⟨a1, k1, a2, k2, rfl, -, -, hn1, hn2, ha1, ha2, hf1⟩
        have H1 := Lib.hid (HW.out w1 a1 a2 k1 k2 hf1 ha1 ha2 hn1 hn2)
        clear hf1 ha1 ha2 hn1 hn2 HW
        go_wp2_with fail
        refine H1.out.mono ?_
        rintro e w2 ⟨a, cap, rfl, hown, hf⟩
        have H2 := Lib.hid (And.intro hown hf)
        clear hown hf H1
        go_wp2_with fail
        go_ret
        exact ⟨a, cap, rfl, H2.out.1, H2.out.2⟩

end Go.Proofs.Ytmgpeonnmfidhaa
