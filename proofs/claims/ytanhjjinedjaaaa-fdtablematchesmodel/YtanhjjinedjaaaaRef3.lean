/-
  CONTRACT of Close of the reference table, over this seat's translation.
  Conditions: the reference table lies in memory as RefAt says.
-/
import Derived.Test.YtanhjjinedjaaaaRef2
namespace Go.Proofs.Ytanhjjinedjaaaa
open Go.ChangeShapes Go.WideShapes Go.ChangeAt Go.RowKit
set_option linter.unusedVariables false

set_option maxHeartbeats 1000000 in
set_option maxRecDepth 100000 in
theorem close_ref (S : Nat → Prop) (rb : Nat) (M : List D) (k tot : Nat) (xc xa : Int) (w : World) (h : RefAt S w rb M k tot) (hnew : ∀ j, w.heap.size ≤ j → S j) :
    Calls Try.prog 35 #[.pointer (some ⟨rb, 0, none⟩), .agg #[.int .i64 xc, .int .i64 xa]] w fun e w' => ∃ r M', e = .returned (.int .i64 r) ∧ Cl M (xc, xa) r M' ∧ RefAt S w' rb M' k tot ∧ Fr S w w' := by
  obtain ⟨⟨sv, hr, hS⟩, h256, hk⟩ := h
  have hr1 := hr.frNo (Fr.alloc No w (.cells #[.int .i64 xc, .int .i64 xa] 38))
  have HS := Lib.hid (And.intro hr1 (And.intro h256 (And.intro hk hnew)))
  have HF : Hid (Fr No w (w.alloc (.cells #[.int .i64 xc, .int .i64 xa] 38))) := Fr.alloc No _ _
  have HOS := Lib.hid hS
  clear hr hr1 h256 hS hk hnew
  go_enter Try.func35, Try.ntmps35
  go_wp2_with fail
  refine (find_any rb sv M k tot xc xa _ HS.out.1 HS.out.2.1).mono ?_
  rintro e w1 ⟨v, rfl, hv, hf1⟩
  have hr2 := HS.out.1.frNo hf1
  have H1 := Lib.hid (And.intro (HF.out.trans hf1) hr2)
  clear hf1
  rcases hv with ⟨hno, rfl⟩ | ⟨i, d, rfl, hd, hk⟩
  · have HN := Lib.hid hno
    clear hr2 hno
    go_wp2_with fail
    go_ret
    exact ⟨4, M, rfl, .inl ⟨HN.out, rfl, rfl⟩, ⟨⟨sv, H1.out.2, HOS.out⟩, HS.out.2.1, HS.out.2.2.1⟩, H1.out.1.no⟩
  · have hil := (List.getElem?_eq_some_iff.1 hd).1
    obtain ⟨a, cap, rfl, hcap, hcm⟩ := hr2.row.any
    obtain ⟨g, rfl, _⟩ := hr2.row.form (by omega)
    obtain ⟨-, c1, -⟩ := hr2.hcell
    have hAt := At.own (K := 4) hr2.row
    obtain ⟨n, hn⟩ : ∃ n, M.length = n := ⟨_, rfl⟩
    have h256 := HS.out.2.1
    rw [hn] at c1 hcap h256 H1
    obtain ⟨j, hj⟩ : ∃ j, i + 1 = j := ⟨_, rfl⟩
    obtain ⟨p, hp⟩ : ∃ p, n - j = p := ⟨_, rfl⟩
    have hcm' : cap ≤ 9223372036854775807 := by unfold maxLen at hcm; omega
    have e1 : (i : Int) + 1 = (j : Int) := by omega
    have e1' : IntKind.i64.wrap (j : Int) = (j : Int) := by rw [IntKind.wrap_i64]; omega
    have q0 : ¬ ((i : Int) < 0) := by omega
    have q1 : (0 : Int) ≤ (i : Int) := by omega
    have q1' : (0 : Int) ≤ (j : Int) := by omega
    have q2 : (i : Int) ≤ (cap : Int) := by omega
    have q3 : (j : Int) ≤ (n : Int) := by omega
    obtain ⟨X, hX⟩ : ∃ X, flat (M.take i) = X := ⟨_, rfl⟩
    obtain ⟨Y, hY⟩ : ∃ Y, flat (M.drop j) = Y := ⟨_, rfl⟩
    have HXl : Hid (X.length = i * 4) := by show _ = _; rw [← hX, flat_length, List.length_take]; omega
    have HYl : Hid (Y.length = p * 4) := by show _ = _; rw [← hY, flat_length, List.length_drop]; omega
    have HA1 : Hid (∀ z, Fr No w1 z → At z (some ⟨g, 0, none⟩) X) := by
      intro z hf
      have := (hAt.frNo hf).take (i * 4)
      rw [← flat_take, hX] at this
      exact this
    obtain ⟨AD, hAD, HA2⟩ : ∃ AD, (if cap = j then some (⟨g, 0, none⟩ : Addr) else some ⟨g, j * 4, none⟩) = some AD ∧ Hid (∀ z, Fr No w1 z → At z (some AD) Y) := by
      by_cases hjc : cap = j
      · refine ⟨⟨g, 0, none⟩, if_pos hjc, ?_⟩
        intro z hf
        rw [← hY, List.drop_of_length_le (by omega)]
        exact At.nil _ _
      · refine ⟨⟨g, j * 4, none⟩, if_neg hjc, ?_⟩
        intro z hf
        have := (hAt.frNo hf).drop (j * 4)
        rw [Nat.zero_add, ← flat_drop, hY] at this
        exact this
    have HD := Lib.hid (And.intro hd (And.intro hk (And.intro hn (And.intro hj (And.intro hp (And.intro hX hY))))))
    have HN0 : Hid (w1.drew.ownsRow w1.heap.size 47 4 (.slice none 0 0) 0 (ints [])) := World.ownsRow_nil _ _ _ _
    have hip : i + p ≤ 100000 := by omega
    have hi1 : 0 + i ≤ 100000 := by omega
    clear hd hk hr2 hil hn hj hX hY hAt hcm
    go_wp2_with fail
    go_region_law (first
      | (refine step_append_wide elt34 (by omega) (by rfl) (.const (.slice none 0 0)) (.tmp 17) (by rfl) w1.heap.size (.slice none 0 0) 0 [] (by simp [Act.eval]) HN0.out (some ⟨g, 0, none⟩) i cap X (by simp [Act.eval, Act.put]) HXl.out (HA1.out _ (Fr.drew No _)) (fun h => by cases h) hi1 (Nat.le_refl _) ?_; intro a2 cap2 w2 hown hgr hat; rw [Nat.zero_add] at hown; have hf2 := grown_no (Fr.drew No w1) rfl hgr (fun k hk => by cases hk); have k1 := (H1.out.2.frNo hf2).hcell.2.1; have H2 := Lib.hid (And.intro hown hf2); clear hown hgr hat hf2; simp only [Nat.zero_add])
      | (refine step_append_wide elt34 (by omega) (by rfl) (.tmp 18) (.tmp 25) (by rfl) w1.heap.size (.slice a2 i cap2) i X (by simp [Act.eval, Act.put]) H2.out.1 (some AD) p (cap - j) Y (by simp [Act.eval, Act.put]) HYl.out (HA2.out _ H2.out.2) (fun h => by cases h) hip H2.out.2.size ?_; intro a3 cap3 w3 hown hgr hat; have hf3 := grown_no H2.out.2 rfl hgr (fun k hk => (H2.out.1.lt k hk).1); have m1 := (H1.out.2.frNo hf3).hcell.2.1; have z1 := (H1.out.2.frNo hf3).hfrozen 1; have H3 := Lib.hid (And.intro hown hf3); clear hown hgr hat hf3))
    all_goals (
      go_wp2_with fail
      go_ret
      obtain ⟨hd, hk, hn, hj, hp, hX, hY⟩ := HD.out
      obtain ⟨hown, hf3⟩ := H3.out
      have hrow : Row 47 w3 (.slice a3 (i + p) cap3) (M.take i ++ M.drop j) := by
        unfold Row
        rw [List.length_append, List.length_take, List.length_drop, flat_append, hX, hY, show min i M.length + (M.length - j) = i + p by omega]
        refine ⟨hown.1, ?_⟩
        rcases hown.2 with h1 | ⟨g2, cp, cur, hv2, hb2, hr2⟩
        · exact .inl h1
        · exact .inr ⟨g2, cp, cur, hv2, Nat.zero_le _, hr2⟩
      have hraw := H1.out.2.setRow (hf3.no) hrow (fun q hq => .inr (hown.lt q hq).1)
      have hsz := H1.out.1.size
      refine ⟨0, _, rfl, .inr ⟨d, by rw [← hj]; exact perm_at hd, hk, rfl⟩, ⟨⟨_, hraw, ?_⟩, ?_, HS.out.2.2.1⟩, ?_⟩
      · rintro q (rfl | hq)
        · exact HOS.out _ (.inl rfl)
        · exact HS.out.2.2.2 q (by have := (hown.lt q hq).1; omega)
      · rw [List.length_append, List.length_take, List.length_drop]; omega
      · exact ((H1.out.1.trans hf3).no).trans (Fr.setCell S _ ⟨rb, 1, none⟩ _ (HOS.out rb (.inl rfl))))

end Go.Proofs.Ytanhjjinedjaaaa
