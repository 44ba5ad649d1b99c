/-
  CONTRACT of Pop, over this seat's translation: it returns a copy of the first elements and removes them.
  Conditions: the ring buffer lies in memory as RingAt says.
-/
import Derived.Test.YtmgpeonnmfidhaaR3
namespace Go.Proofs.Ytmgpeonnmfidhaa
open Go.ChangeShapes Go.WideShapes Go.ChangeAt Go.RowKit
set_option linter.unusedVariables false

theorem view_pop {L Q : List Int} {f size m s h t f' : Nat} (hg : Sound L f Q size) (hm : m ≤ Q.length) (hs : ix L.length f 0 = s) (hh : h = min m (L.length - s)) (ht : h + t = m) (hf' : ix L.length f m = f') :
    Sound (splice (splice L s (List.replicate h 0)) 0 (List.replicate t 0)) f' (Q.drop m) size := by
  obtain ⟨h1, h2, h3, h4, h5⟩ := hg
  have hs' : f = s := by rw [← hs]; unfold ix; split <;> omega
  subst hs'
  have l1 : (splice L f (List.replicate h 0)).length = L.length := length_splice _ _ _ (by simp; omega)
  have l2 : (splice (splice L f (List.replicate h 0)) 0 (List.replicate t 0)).length = L.length := by rw [length_splice _ _ _ (by rw [l1]; simp; omega), l1]
  refine ⟨by omega, h2, ?_, by rw [List.length_drop]; omega, ?_⟩
  · rw [l2, ← hf']; unfold ix; split <;> omega
  · intro i hi
    rw [List.length_drop] at hi
    rw [l2, List.getElem?_drop, ← h5 (m + i) (by omega)]
    have e1 : ix L.length f' i = ix L.length f (m + i) := by rw [← hf']; unfold ix; split <;> split <;> split <;> omega
    rw [e1]
    have hk : ix L.length f (m + i) < L.length ∧ ¬ (f ≤ ix L.length f (m + i) ∧ ix L.length f (m + i) < f + h) ∧ ¬ (0 ≤ ix L.length f (m + i) ∧ ix L.length f (m + i) < 0 + t) := by
      unfold ix; split <;> omega
    rw [splice_get _ _ _ (by rw [l1]; simp; omega), List.length_replicate, if_neg hk.2.2, splice_get _ _ _ (by simp; omega), List.length_replicate, if_neg hk.2.1]

set_option maxHeartbeats 1000000 in
set_option maxRecDepth 100000 in
theorem pop_any (S : Nat → Prop) (hb : Nat) (Q : List Int) (size c m : Nat) (n : Int) (w : World) (hR : RingAt S w hb Q size) (hc : Q.length = c) (hm : max 0 (min n (c : Int)) = (m : Int)) :
    Calls Try.prog 16 #[.pointer (some ⟨hb, 0, none⟩), .int .i64 n] w fun e w' => ∃ a cap, e = .returned (.slice a m cap) ∧ w'.ownsRow w.heap.size 3 1 (.slice a m cap) m (ints (Q.take m)) ∧ RingAt S w' hb (Q.drop m) size ∧ Fr S w w' := by
  have HR := Lib.hid hR
  obtain ⟨sv, L, f, hr, hg, hS⟩ := hR
  obtain ⟨N, hN⟩ : ∃ N, L.length = N := ⟨_, rfl⟩
  obtain ⟨s, hs⟩ : ∃ s, ix N f 0 = s := ⟨_, rfl⟩
  obtain ⟨h, hh⟩ : ∃ h, h = min m (N - s) := ⟨_, rfl⟩
  obtain ⟨t, ht⟩ : ∃ t, h + t = m := ⟨m - h, by omega⟩
  obtain ⟨f', hf'⟩ : ∃ f', ix N f m = f' := ⟨_, rfl⟩
  obtain ⟨c', hc'⟩ : ∃ c', c' = c - m := ⟨_, rfl⟩
  have hmc : m ≤ c := by omega
  have hcN := hg.count
  have h4 : N ≤ 4096 := by rw [← hN]; exact Nat.le_trans hg.len hg.size
  rw [hc] at hr hcN
  rw [hN] at hcN
  have hfN := hg.first
  rw [hN] at hfN
  have hsN : s + h ≤ N ∧ t ≤ N := by rw [← hs] at hh ⊢; unfold ix at hh ⊢; split at hh <;> split <;> omega
  obtain ⟨a, hsv⟩ := hr.any
  rw [hN] at hsv
  have hv := view_pop (s := s) (f' := f') hg (by omega) (by rw [hN]; exact hs) (by rw [hN]; exact hh) ht (by rw [hN]; exact hf')
  have HS := Lib.hid (And.intro hr (And.intro hN (And.intro hs (And.intro hh (And.intro ht (And.intro hf' (And.intro hS (And.intro hv (And.intro hsN hsv)))))))))
  have HM := Lib.hid (And.intro hc (And.intro hm hfN))
  have e1 : (c : Int) - (m : Int) = (c' : Int) := by omega
  have hfN' : f ≤ N := by omega
  have HC := Lib.hid hc'
  clear hr hg hS hN hs hh ht hf' hv hsN hc hm hc' hfN hsv
  go_enter Try.func16, Try.ntmps16
  go_wp2_with fail
  refine (peek_any S hb Q size c m n _ HR.out HM.out.1 HM.out.2.1).mono ?_
  rintro e w1 ⟨pa, pc, rfl, hown1, hf1⟩
  have H1 := Lib.hid (And.intro hown1 (And.intro hf1 (HS.out.1.frNo hf1)))
  clear hown1 hf1
  go_wp2_with fail
  refine (run_any hb sv L f c size 0 m N s h t _ H1.out.2.2 HS.out.2.1 h4 HM.out.2.2 (Nat.zero_le _) (by omega) HS.out.2.2.1 HS.out.2.2.2.1 HS.out.2.2.2.2.1).mono ?_
  rintro e w2 ⟨a1, k1, a2, k2, rfl, -, -, hn1, hn2, ha1, ha2, hf2⟩
  have H2 := Lib.hid (And.intro (H1.out.2.2.frNo hf2) (And.intro (H1.out.2.1.trans hf2) (And.intro ha1 (And.intro ha2 (row_frNo H1.out.1 hf2)))))
  clear ha1 ha2 hn1 hn2 hf2 H1
  have hl3 : (splice L s (List.replicate h 0)).length = N := by
    have h1 := HS.out.2.1
    have h2 := HS.out.2.2.2.2.2.2.2.2.1.1
    rw [length_splice _ _ _ (by simp; omega), h1]
  have HL := Lib.hid hl3
  clear hl3
  go_wp2_with (first
    | (with_reducible refine wpList_clear_ring rfl (.tmp 18) rfl a1 h k1 rfl H2.out.1 s H2.out.2.2.1 (by have := HS.out.2.2.2.2.2.2.2.2.1.1; have := HS.out.2.1; omega) ?_; intro w3 hr3 hf3; have H3 := Lib.hid (And.intro hr3 hf3); clear hr3 hf3)
    | (with_reducible refine wpList_clear_ring rfl (.tmp 19) rfl a2 t k2 rfl H3.out.1 0 (fun h => by rw [HL.out, ← HS.out.2.1]; exact H2.out.2.2.2.1 h) (by rw [HL.out]; have := HS.out.2.2.2.2.2.2.2.2.1.2; omega) ?_; intro w4 hr4 hf4; have H4 := Lib.hid (And.intro hr4 hf4); clear hr4 hf4)
    | fail)
  obtain ⟨L4, hL4⟩ : ∃ L4, L4 = splice (splice L s (List.replicate h 0)) 0 (List.replicate t 0) := ⟨_, rfl⟩
  have hr4 := H4.out.1
  rw [← hL4] at hr4
  have hr4' := hr4
  rw [HS.out.2.2.2.2.2.2.2.2.2] at hr4'
  have HR4 := Lib.hid (And.intro hr4 hL4)
  clear hr4 hL4
  refine (slot_any hb a N L4 f c size m _ hr4' h4 hfN' (by omega)).mono ?_
  rintro e w5 ⟨rfl, hw⟩
  have hw' := hw.symm
  subst hw'
  rw [HS.out.2.2.2.2.2.1]
  obtain ⟨d0, d1, d2, d3⟩ := hr4'.hcell
  have z1 := hr4'.hfrozen 1
  have z2 := hr4'.hfrozen 2
  clear hr4' hw
  go_wp2_with fail
  go_ret
  obtain ⟨hr, hN, hs, hh, ht, hf', hS, hv, hsN, hsv⟩ := HS.out
  obtain ⟨hr4, hL4⟩ := HR4.out
  have r5 := (hr4.setFirst f').setCount c'
  have F3 : Fr (Own hb sv) w2 w3 := H3.out.2.mono fun k _ hk => .inr hk
  have F4 : Fr (Own hb sv) w2 w4 := F3.trans (H4.out.2.mono fun k _ hk => .inr hk)
  have F5 := (F4.trans (Fr.setCell (Own hb sv) w4 ⟨hb, 1, none⟩ (.int .i64 (f' : Int)) (.inl rfl))).trans (Fr.setCell (Own hb sv) _ ⟨hb, 2, none⟩ (.int .i64 (c' : Int)) (.inl rfl))
  have FW : Fr (Own hb sv) w _ := (H2.out.2.1.no).trans F5
  refine ⟨pa, pc, rfl, row_keep H2.out.2.2.2.2 (fun k hk => ?_), ⟨sv, L4, f', ?_, by rw [hL4]; exact hv, hS⟩, FW.mono fun k _ hk => hS k hk⟩
  · have h1 := H2.out.2.2.2.2.lt k hk
    exact F5.block k h1.2 (fun ho => by have := hr.own_lt ho; omega)
  · have hq : (Q.drop m).length = c' := by rw [List.length_drop, HM.out.1]; exact HC.out.symm
    rw [hq]
    exact r5

end Go.Proofs.Ytmgpeonnmfidhaa
