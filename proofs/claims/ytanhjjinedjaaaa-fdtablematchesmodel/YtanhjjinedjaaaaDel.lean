/-
  CONTRACT of slices.Delete of one descriptor, over this seat's translation: it returns the row without that descriptor, in place.
  Conditions: the row lies in memory; the index lies within it.
-/
import Derived.Test.YtanhjjinedjaaaaLaws
namespace Go.Proofs.Ytanhjjinedjaaaa
open Go.ChangeShapes Go.WideShapes Go.ChangeAt Go.RowKit
set_option linter.unusedVariables false

theorem row_cut {w : World} {base : Nat} {e : TypeId} {K g n cap i : Nat} {xs : List Value} (h : w.ownsRow base e K (.slice (some ⟨g, 0, none⟩) n cap) n xs) (hi : i ≤ n) : w.ownsRow base e K (.slice (some ⟨g, 0, none⟩) i cap) i (xs.take (i * K)) := by
  have hik : i * K ≤ n * K := Nat.mul_le_mul_right _ hi
  refine ⟨by rw [List.length_take, h.1]; omega, ?_⟩
  rcases h.2 with ⟨hv, _⟩ | ⟨g', cap', cur, hv, hb, hg, hn, hc, hs, ht⟩
  · cases hv
  · cases hv
    refine .inr ⟨g, cap, cur, rfl, hb, hg, by omega, hc, hs, ?_⟩
    rw [← ht, List.take_take, Nat.min_eq_left hik]

/-- The whole block of a row. -/
theorem row_block {w : World} {base : Nat} {e : TypeId} {K g n cap : Nat} {xs : List Value} (h : w.ownsRow base e K (.slice (some ⟨g, 0, none⟩) n cap) n xs) : ∃ cur : List Value, w.heap[g]? = some (.cells cur.toArray e (0, 0)) ∧ cur.length = cap * K ∧ cur.take (n * K) = xs ∧ n ≤ cap ∧ cap ≤ maxLen ∧ base ≤ g := by
  rcases h.2 with ⟨hv, _⟩ | ⟨g', cap', cur, hv, hb, hg, hn, hc, hs, ht⟩
  · cases hv
  · cases hv
    exact ⟨cur.toList, by simpa using hg, by simpa using hs, ht, hn, hc, hb⟩
theorem block_row {w : World} {base : Nat} {e : TypeId} {K g n cap : Nat} {xs cur : List Value} (hg : w.heap[g]? = some (.cells cur.toArray e (0, 0))) (hl : cur.length = cap * K) (ht : cur.take (n * K) = xs) (hn : n ≤ cap) (hc : cap ≤ maxLen) (hb : base ≤ g) : w.ownsRow base e K (.slice (some ⟨g, 0, none⟩) n cap) n xs := by
  refine ⟨?_, .inr ⟨g, cap, cur.toArray, rfl, hb, hg, hn, hc, by simpa using hl, by simpa using ht⟩⟩
  have : n * K ≤ cap * K := Nat.mul_le_mul_right _ hn
  rw [← ht, List.length_take]; omega

set_option maxHeartbeats 1000000 in
set_option maxRecDepth 100000 in
theorem delete_any (g n cap i j m : Nat) (L : List D) (w : World) (h : Row 61 w (.slice (some ⟨g, 0, none⟩) n cap) L) (hi : i < n) (hj : i + 1 = j) (hm : m + 1 = n) (hn : n ≤ 256) :
    Calls Try.prog 43 #[.slice (some ⟨g, 0, none⟩) n cap, .int .i64 i, .int .i64 j] w fun e w' => e = .returned (.slice (some ⟨g, 0, none⟩) m cap) ∧ Row 61 w' (.slice (some ⟨g, 0, none⟩) m cap) (L.take i ++ L.drop j) ∧ Fr (fun k => k = g) w w' := by
  have hl := h.len
  obtain ⟨cur, hg, hcl, hct, hnc, hcm, -⟩ := row_block (K := 4) (by rw [Row, ← hl] at h; exact h)
  obtain ⟨p, hp⟩ : ∃ p, n - j = p := ⟨_, rfl⟩
  have hcm' : cap ≤ 9223372036854775807 := by unfold maxLen at hcm; omega
  have q0 : (0 : Int) ≤ (i : Int) := by omega
  have q0' : (0 : Int) ≤ (j : Int) := by omega
  have q1 : (i : Int) ≤ (j : Int) := by omega
  have q2 : (j : Int) ≤ (n : Int) := by omega
  have q3 : (n : Int) ≤ (cap : Int) := by omega
  have q4 : (i : Int) ≤ (cap : Int) := by omega
  have q5 : ¬ ((i : Int) = (j : Int)) := by omega
  have him : i + p = m := by omega
  have q6 : (m : Int) ≤ (n : Int) := by omega
  have q7 : n - m = 1 := by omega
  have HS := Lib.hid (And.intro h (And.intro hl (And.intro hj (And.intro hm (And.intro hi hp)))))
  have hne : ¬ (i = n) := by omega
  have hmc : ¬ (cap = m) := by omega
  have HO : Hid (w.drew.ownsRow 0 61 4 (.slice (some ⟨g, 0, none⟩) i cap) i ((ints (flat L)).take (i * 4))) := by
    have h1 : w.drew.ownsRow 0 61 4 (.slice (some ⟨g, 0, none⟩) n cap) n (ints (flat L)) := by have := h.frNo (Fr.drew No w); rw [Row, ← hl] at this; exact this
    exact row_cut h1 (by omega)
  obtain ⟨AD, hAD, HA⟩ : ∃ AD, (if cap = j then some (⟨g, 0, none⟩ : Addr) else some ⟨g, j * 4, none⟩) = some AD ∧ Hid (∀ (k : Nat) (u : Value), (ints (flat (L.drop j)))[k]? = some u → w.drew.cell? (AD.add k) = some u) := by
    by_cases hjc : cap = j
    · refine ⟨⟨g, 0, none⟩, if_pos hjc, ?_⟩
      intro k u hk
      rw [List.drop_of_length_le (by omega)] at hk
      simp [flat, ints] at hk
    · refine ⟨⟨g, j * 4, none⟩, if_neg hjc, ?_⟩
      have h1 : w.drew.ownsRow 0 61 4 (.slice (some ⟨g, 0, none⟩) n cap) n (ints (flat L)) := by have := h.frNo (Fr.drew No w); rw [Row, ← hl] at this; exact this
      have h2 := (At.own h1).drop (j * 4)
      rw [Nat.zero_add, ← flat_drop] at h2
      exact h2.src
  have HL : Hid ((ints (flat (L.drop j))).length = p * 4) := by show _ = _; rw [ints_length, flat_length, List.length_drop]; omega
  generalize hX : (ints (flat L)).take (i * 4) = X at HO
  generalize hN : ints (flat (L.drop j)) = N at HA HL
  have H1N : Hid (∀ u ∈ N, u.oneCell' = true) := by rw [← hN]; exact ints_one _
  have HXN := Lib.hid (And.intro hX hN)
  clear hX hN
  have HM := Lib.hid him
  clear h hl hj hm hi hg hcl hct
  go_enter Try.func43, Try.ntmps43
  go_wp2_with fail
  go_region_law ((refine step_append_spare elt57 (by rfl) (.tmp 22) (.tmp 25) (by rfl) 0 g i cap X (by simp [Act.eval, Act.put]) HO.out AD p (cap - j) N (by simp [Act.eval, Act.put]) HL.out HA.out H1N.out (by omega) ?_); intro w1 hown1 hgr1; rw [HM.out] at hown1; have H1 := Lib.hid (And.intro hown1 hgr1); clear hown1 hgr1)
  obtain ⟨cur, hg, hcl, hct, -, -, -⟩ := row_block (K := 4) H1.out.1
  have hfit : m * 4 + 1 * 4 ≤ cur.length := by rw [hcl]; omega
  have HG := Lib.hid (And.intro hg (And.intro hcl hct))
  clear hg hcl hct hAD
  go_wp2_with (first | (((with_reducible refine wpList_clear_wide elt57 rfl (.tmp 31) rfl g (m * 4) 1 _ rfl cur 61 (by omega) HG.out.1 hfit ?_); intro w2 hg2 hf2; have H2 := Lib.hid (And.intro hg2 hf2); clear hg2 hf2)) | fail)
  trace_state
  go_ret
  obtain ⟨h, hl, hj, hm, hi, hp⟩ := HS.out
  refine ⟨rfl, ?_, ?_⟩
  · have hlen : (L.take i ++ L.drop j).length = m := by rw [List.length_append, List.length_take, List.length_drop]; omega
    unfold Row
    rw [hlen]
    refine block_row (K := 4) H2.out.1 ?_ ?_ (by omega) hcm (Nat.zero_le _)
    · rw [length_splice _ _ _ (by rw [ints_length, List.length_replicate]; exact hfit)]; exact HG.out.2.1
    · rw [splice, List.take_append_of_le_length (by rw [List.length_take]; omega), List.take_take, Nat.min_self, HG.out.2.2, ← HXN.out.1, ← HXN.out.2, flat_append, flat_take, ints_append]
      simp [ints, List.map_take]
  · exact ((Fr.drew _ w).trans (Fr.grown (S := fun k => k = g) H1.out.2 (fun k hk => by cases hk; rfl))).trans H2.out.2

end Go.Proofs.Ytanhjjinedjaaaa
