/-
  THE LAW BudgetRemainingIsExact: its walk.
  Conditions: the arguments lie in their kinds' ranges.
-/
import Derived.Test.YtfpaihohhedhfaaC
import Derived.Deep.DeepCutAuto
import Derived.Deep.CutBlock
namespace Go.Proofs.Ytfpaihohhedhfaa
open Go.ChangeShapes Go.WideShapes Go.ChangeAt Go.RowKit
set_option linter.unusedVariables false

/-- The width that a law makes of its argument. -/
theorem width_fix (a : Int) (N : Int) (hN : 1 ≤ N) (hN2 : N ≤ 1000) (ha : U64 a) : ∃ r : Int, (0 ≤ r ∧ r < N) ∧ a.tmod N = r ∧ a % N = r := by
  refine ⟨a % N, ⟨Int.emod_nonneg _ (by omega), Int.emod_lt_of_pos _ (by omega)⟩, Int.tmod_eq_emod_of_nonneg ha.1, rfl⟩

theorem cu_le (q c u l : Int) (h0 : 0 ≤ u) (hul : u ≤ l) : 0 ≤ l - cu q c u ∧ l - cu q c u ≤ l := by
  unfold cu; split <;> omega
theorem nu_rem (q c u l r : Int) (hr : l - cu q c u = r) (hp : 0 < r) : ch q c u l = true ∧ l - cu q (cw q c) (nu q c u l) = r - 1 := by
  have h1 : cu q c u ≠ l := by omega
  refine ⟨by unfold ch; rw [decide_eq_true_iff]; exact h1, ?_⟩
  have e : nu q c u l = cu q c u + 1 := by unfold nu; rw [if_neg h1]
  rw [e]
  have e2 : cu q (cw q c) (cu q c u + 1) = cu q c u + 1 := by by_cases h : c < q <;> simp [cu, cw, h]
  rw [e2]; omega
theorem nu_end (q c u l : Int) (hr : l - cu q c u = 0) : ch q c u l = false ∧ l - cu q (cw q c) (nu q c u l) = 0 := by
  have h1 : cu q c u = l := by omega
  refine ⟨by unfold ch; rw [decide_eq_false_iff_not]; exact fun h => h h1, ?_⟩
  have e : nu q c u l = cu q c u := by unfold nu; rw [if_pos h1]
  rw [e]
  have e2 : cu q (cw q c) (cu q c u) = cu q c u := by by_cases h : c < q <;> simp [cu, cw, h]
  rw [e2]; omega

set_option maxHeartbeats 8000000 in
set_option maxRecDepth 100000 in
theorem exact_walk (n wd m at' : Int) (w : World) (hn : -9223372036854775808 ≤ n ∧ n ≤ 9223372036854775807) (hw : U64 wd) (hm : -9223372036854775808 ≤ m ∧ m ≤ 9223372036854775807) (ha : U64 at') :
    Calls Try.prog 6 #[.int .i64 n, .int .u64 wd, .int .i64 m, .int .u64 at'] w fun e w' => e = .returned (.bool true) ∧ Fr No w w' := by
  obtain ⟨k, hk, hmk⟩ := mod_fix n 40 (by decide) (by decide)
  obtain ⟨p, hp, hmp⟩ := mod_fix m 50 (by decide) (by decide)
  obtain ⟨r, hr, hr1, hr2⟩ := width_fix wd 50 (by decide) (by decide) hw
  have HMK := Lib.hid hmk
  have HMP := Lib.hid hmp
  obtain ⟨wt, hwt⟩ : ∃ wt, 1 + r = wt := ⟨_, rfl⟩
  obtain ⟨at1, hat1⟩ : ∃ at1, wt - 1 = at1 := ⟨_, rfl⟩
  have HW := Lib.hid (show (0 ≤ k ∧ k < 40) ∧ (0 ≤ p ∧ p < 50) ∧ 1 ≤ wt ∧ wt ≤ 50 ∧ U64 at1 ∧ at1 / wt = 0 by
    refine ⟨by omega, by omega, by omega, by omega, by unfold U64; omega, Int.ediv_eq_zero_of_lt (by omega) (by omega)⟩)
  obtain ⟨q, hq⟩ : ∃ q, at' / wt = q := ⟨_, rfl⟩
  have HA := Lib.hid (And.intro ha hq)
  have HN := Lib.hid (new_one k wt w w (Fr.refl _ _) (by omega))
  have HR := Lib.hid (fun u h0 hu => cu_le q 0 u k h0 hu)
  obtain ⟨hr0, hr50⟩ := hr
  clear hn hw hm ha hk hp hmk hmp hr2 hq
  go_enter Try.func6, Try.ntmps6
  go_wp2_with fail
  with_reducible refine (HMK.out _).mono ?_
  rintro e wm ⟨rfl, hwm⟩
  have hwm' := hwm.symm
  subst hwm'
  clear hwm
  go_wp2_with fail
  clear hr0 hr50 hr1 hwt
  with_reducible refine HN.out.mono ?_
  rintro e w1 ⟨b, rfl, H1⟩
  have H1 := Lib.hid H1
  go_wp2_with fail
  go_loopg [13] 51 (fun gg s13 wr => ∃ (i u : Int), s13 = .int .i64 i ∧ 0 ≤ i ∧ i ≤ 50 ∧ (50 - i).toNat < gg ∧ Hid (One w wr b k wt 0 u))
  case atStart => exact ⟨0, 0, rfl, by omega, by omega, by decide, H1.out⟩
  case round =>
    obtain ⟨i, u, rfl, hi0, hi50, hig, HO⟩ := hrel
    clear H1
    go_wp2_with fail
    with_reducible refine (HMP.out _).mono ?_
    rintro e wm ⟨rfl, hwm⟩
    have hwm' := hwm.symm
    subst hwm'
    clear hwm
    by_cases hip : i < p
    · have h50 : i < 50 := by have := HW.out; omega
      obtain ⟨u', hu'⟩ : ∃ u', nu 0 0 u k = u' := ⟨_, rfl⟩
      obtain ⟨v, hv⟩ : ∃ v, ch 0 0 u k = v := ⟨_, rfl⟩
      have HC := Lib.hid (HO.out.charge (c' := 0) HW.out.2.2.2.2.1 HW.out.2.2.2.2.2 (by decide) hu' hv)
      have g0 : 0 ≤ at1 := HW.out.2.2.2.2.1.1
      have g1 : at1 ≤ 18446744073709551615 := HW.out.2.2.2.2.1.2
      clear hu' hv
      go_wp2_with fail
      with_reducible refine HC.out.mono ?_
      rintro e w3 ⟨rfl, H3⟩
      have H3 := Lib.hid H3
      clear HC g0 g1
      go_wp2_with fail
      go_roundg (50 - i).toNat
      case measure => exact hig
      case rel => exact ⟨i + 1, u', by go_num, by omega, by omega, by omega, H3.out⟩
    · obtain ⟨rr, hrr⟩ : ∃ rr, k - cu q 0 u = rr := ⟨_, rfl⟩
      have HD := Lib.hid (HO.out.rem HA.out.1 HA.out.2 hrr)
      have hb := cu_le q 0 u k HO.out.h0 HO.out.hu
      rw [hrr] at hb
      obtain ⟨hb0, hb1⟩ := hb
      have hk40 : k < 40 := HW.out.1.2
      have q0 : (rr == rr) = true := by simp
      have p1 : ¬ rr < 0 := by omega
      have p2 : ¬ k < rr := by omega
      have HRR := Lib.hid hrr
      clear hrr
      go_wp2_with fail
      with_reducible refine HD.out.mono ?_
      rintro e w3 ⟨rfl, H3⟩
      have HE := Lib.hid (H3.rem HA.out.1 HA.out.2 HRR.out)
      clear H3 HD
      go_wp2_with fail
      with_reducible refine HE.out.mono ?_
      rintro e w4 ⟨rfl, H4⟩
      have H4 := Lib.hid H4
      clear HE
      go_wp2_with fail
      clear hip hi0 hi50 hig HO
      go_loopg [15] 51 (fun gg s15 wr => ∃ (j c u : Int), s15 = .int .i64 j ∧ 0 ≤ j ∧ j ≤ rr ∧ (50 - j).toNat < gg ∧ Hid (k - cu q c u = rr - j) ∧ Hid (One w wr b k wt c u))
      case atStart => exact ⟨0, 0, u, rfl, by omega, by omega, by decide, by have := HRR.out; show k - cu q 0 u = rr - 0; omega, H4.out⟩
      case round =>
        obtain ⟨j, c, u1, rfl, hj0, hjr, hjg, HJ, HO⟩ := hrel
        clear H4 HRR
        by_cases hlt : j < rr
        · obtain ⟨d, hd⟩ : ∃ d, rr - j = d := ⟨_, rfl⟩
          have hjd := HJ.out
          rw [hd] at hjd
          have hs := nu_rem q c u1 k d hjd (by omega)
          obtain ⟨c', hc'⟩ : ∃ c', cw q c = c' := ⟨_, rfl⟩
          obtain ⟨u', hu'⟩ : ∃ u', nu q c u1 k = u' := ⟨_, rfl⟩
          rw [hc', hu'] at hs
          have HS := Lib.hid (show ch q c u1 k = true ∧ k - cu q c' u' = rr - (j + 1) ∧ cw q c = c' ∧ nu q c u1 k = u' from ⟨hs.1, by have := hs.2; omega, hc', hu'⟩)
          have HD := Lib.hid (HO.out.rem HA.out.1 HA.out.2 hjd)
          have q1 : (d == d) = true := by simp
          have d0 : 0 ≤ d := by omega
          have d1 : d ≤ 40 := by omega
          clear hjd hs hc' hu' HJ
          go_wp2_with fail
          with_reducible refine HD.out.mono ?_
          rintro e w5 ⟨rfl, H5⟩
          have HE := Lib.hid (H5.charge HA.out.1 HA.out.2 HS.out.2.2.1 HS.out.2.2.2 HS.out.1)
          clear HD H5
          go_wp2_with fail
          with_reducible refine HE.out.mono ?_
          rintro e w6 ⟨rfl, H6⟩
          have H6 := Lib.hid H6
          clear HE
          go_wp2_with fail
          go_roundg (50 - j).toNat
          case measure => exact hjg
          case rel => exact ⟨j + 1, c', u', by go_num, by omega, by omega, by omega, HS.out.2.1, H6.out⟩
        · have hz : k - cu q c u1 = 0 := by have := HJ.out; omega
          have hs := nu_end q c u1 k hz
          obtain ⟨c', hc'⟩ : ∃ c', cw q c = c' := ⟨_, rfl⟩
          obtain ⟨u', hu'⟩ : ∃ u', nu q c u1 k = u' := ⟨_, rfl⟩
          rw [hc', hu'] at hs
          have HS := Lib.hid (And.intro hs (And.intro hc' hu'))
          clear hz hs hc' hu' HJ
          go_wp2_with fail
          with_reducible refine (awake_any _).mono ?_
          rintro e w5 ⟨rfl, hf5⟩
          have HE := Lib.hid ((HO.out.no hf5).charge HA.out.1 HA.out.2 HS.out.2.1 HS.out.2.2 HS.out.1.1)
          clear hf5
          go_wp2_with fail
          with_reducible refine HE.out.mono ?_
          rintro e w6 ⟨rfl, H6⟩
          have HF := Lib.hid (H6.rem HA.out.1 HA.out.2 HS.out.1.2)
          clear HE H6
          go_wp2_with fail
          with_reducible refine HF.out.mono ?_
          rintro e w7 ⟨rfl, H7⟩
          have H7 := Lib.hid H7
          clear HF
          go_wp2_with fail
          go_ret
          exact ⟨rfl, H7.out.fr⟩
end Go.Proofs.Ytfpaihohhedhfaa
