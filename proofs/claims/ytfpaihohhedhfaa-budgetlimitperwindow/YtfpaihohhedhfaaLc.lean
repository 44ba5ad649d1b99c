/-
  THE LAW BudgetLimitPerWindow: its walk.
  Conditions: the arguments lie in their kinds' ranges; the list lies in memory.
-/
import Derived.Test.YtfpaihohhedhfaaLb
import Derived.Test.YtfpaihohhedhfaaLd
import Derived.Deep.DeepCutAuto
import Derived.Deep.CutBlock
namespace Go.Proofs.Ytfpaihohhedhfaa
open Go.ChangeShapes Go.WideShapes Go.ChangeAt Go.RowKit
set_option linter.unusedVariables false

theorem ediv_mono {a b c : Int} (h : a ≤ b) (hc : 1 ≤ c) : a / c ≤ b / c := Int.ediv_le_ediv (by omega) h

/-- What a charge does in the window that it finds or in a later one: as the law reckons. -/
theorem step_new {q c u k : Int} (h : c ≤ q) (hne : ¬ q = c) : cw q c = q ∧ cu q c u = 0 := by
  unfold cw cu; rw [if_pos (by omega), if_pos (by omega)]; exact ⟨rfl, rfl⟩
theorem step_old {q c u k : Int} (he : q = c) : cw q c = c ∧ cu q c u = u := by
  unfold cw cu; rw [if_neg (by omega), if_neg (by omega)]; exact ⟨rfl, rfl⟩

set_option maxHeartbeats 8000000 in
set_option maxRecDepth 100000 in
theorem limit_walk (n wd : Int) (a : Option Addr) (len cap : Nat) (w : World) (hn : -9223372036854775808 ≤ n ∧ n ≤ 9223372036854775807) (hw : U64 wd) (hl : InU w a len) :
    Calls Try.prog 5 #[.int .i64 n, .int .u64 wd, .slice a len cap] w fun e w' => e = .returned (.bool true) ∧ Fr No w w' := by
  obtain ⟨k, hk, hmk⟩ := mod_fix n 8 (by decide) (by decide)
  obtain ⟨r, hr, hr1, hr2⟩ := width_fix wd 30 (by decide) (by decide) hw
  have HMK := Lib.hid hmk
  have HL := Lib.hid hl
  have hlen := hl.1
  obtain ⟨wt, hwt⟩ : ∃ wt, 1 + r = wt := ⟨_, rfl⟩
  have HW := Lib.hid (show (0 ≤ k ∧ k < 8) ∧ 1 ≤ wt ∧ wt ≤ 30 by omega)
  have HN := Lib.hid (new_one k wt w w (Fr.refl _ _) (by omega))
  have hwt1 : 1 ≤ wt := by omega
  obtain ⟨hr0, hr50⟩ := hr
  clear hn hw hk hmk hr2 hl
  go_enter Try.func5, Try.ntmps5
  go_wp2_with fail
  with_reducible refine (HMK.out _).mono ?_
  rintro e wm ⟨rfl, hwm⟩
  have hwm' := hwm.symm
  subst hwm'
  clear hwm
  go_wp2_with fail
  clear hr0 hr50 hr1 hwt
  with_reducible refine HN.out.mono ?_
  rintro e w1 ⟨b, rfl, H1⟩
  have H1 := Lib.hid H1
  go_wp2_with fail
  go_loopg [11, 12, 13, 14] 201 (fun gg s11 s12 s13 s14 wr => ∃ (i now c u : Int), s11 = .int .u64 now ∧ s12 = .int .u64 c ∧ s13 = .int .i64 u ∧ s14 = .int .i64 i ∧ 0 ≤ i ∧ i ≤ 200 ∧ (200 - i).toNat < gg ∧ 0 ≤ now ∧ now ≤ 7 * i ∧ Hid (now / wt = c) ∧ Hid (One w wr b k wt c u))
  case atStart => exact ⟨0, 0, 0, 0, rfl, rfl, rfl, rfl, by omega, by omega, by decide, by omega, by omega, Int.zero_ediv _, H1.out⟩
  case round =>
    obtain ⟨i, now, c, u, rfl, rfl, rfl, rfl, hi0, hi200, hig, hn0, hn1, HC, HO⟩ := hrel
    clear H1
    by_cases hin : i < len ∧ i < 200
    · obtain ⟨hin1, hin2⟩ := hin
      obtain ⟨j, hj⟩ : ∃ j : Nat, i = j := ⟨i.toNat, by omega⟩
      subst hj
      obtain ⟨ab, o, z, hz, rfl, hcell⟩ := HL.out.cell (i := j) (by omega)
      have c0 := hcell _ HO.out.fr
      obtain ⟨z0, z1⟩ := hz
      obtain ⟨y, ⟨hy0, hy7⟩, hy1, hy2⟩ := width_fix z 7 (by decide) (by decide) ⟨z0, z1⟩
      obtain ⟨nx, hnx⟩ : ∃ nx, now + y = nx := ⟨_, rfl⟩
      obtain ⟨q, hq⟩ : ∃ q, nx / wt = q := ⟨_, rfl⟩
      have hqu : U64 q := by rw [← hq]; exact div_u64 ⟨by omega, by omega⟩ hwt1
      have hcq : c ≤ q := by rw [← hq, ← HC.out]; exact ediv_mono (by omega) hwt1
      have HQ := Lib.hid (show U64 nx ∧ nx / wt = q ∧ U64 q ∧ c ≤ q ∧ nx ≤ 7 * ((j : Int) + 1) from ⟨⟨by omega, by omega⟩, hq, hqu, hcq, by omega⟩)
      have nx0 : 0 ≤ nx := by omega
      have nx1 : nx ≤ 2000 := by omega
      clear hcell hy2
      by_cases hqc : q = c
      · by_cases hfu : u = k
        · subst hqc
          have hst := step_old (q := q) (c := q) (u := u) (k := k) rfl
          have hv : ch q q u k = false ∧ nu q q u k = u := by unfold ch nu; rw [hst.2, if_pos hfu]; exact ⟨decide_eq_false (fun h => h hfu), rfl⟩
          have HE := Lib.hid (HO.out.charge HQ.out.1 HQ.out.2.1 hst.1 hv.2 hv.1)
          have q1 : (q == q) = true := by simp
          have q2 : (u == u) = true := by simp
          have p1 : ¬ u < k := by omega
          have hu0 := HO.out.h0
          have huk := HO.out.hu
          have hk8 := HW.out.1
          have p2 : ¬ k < u := by omega
          clear hst hv hu0 huk hk8 hfu
          go_wp2_with fail
          with_reducible refine HE.out.mono ?_
          rintro e w3 ⟨rfl, H3⟩
          have H3 := Lib.hid H3
          clear HE
          go_wp2_with fail
          with_reducible refine H3.out.used.mono ?_
          rintro e w4 ⟨rfl, hw4⟩
          subst hw4
          go_wp2_with fail
          with_reducible refine H3.out.win.mono ?_
          rintro e w4 ⟨rfl, hw4⟩
          subst hw4
          go_wp2_with fail
          go_roundg (200 - (j : Int)).toNat
          case measure => exact hig
          case rel => exact ⟨(j : Int) + 1, nx, q, u, rfl, rfl, rfl, by go_num, by omega, by omega, by omega, nx0, HQ.out.2.2.2.2, HQ.out.2.1, H3.out⟩
        · subst hqc
          have hst := step_old (q := q) (c := q) (u := u) (k := k) rfl
          obtain ⟨u2, hu2⟩ : ∃ u2, u + 1 = u2 := ⟨_, rfl⟩
          have hv : ch q q u k = true ∧ nu q q u k = u2 := by unfold ch nu; rw [hst.2, if_neg hfu]; exact ⟨decide_eq_true hfu, hu2⟩
          have HE := Lib.hid (HO.out.charge HQ.out.1 HQ.out.2.1 hst.1 hv.2 hv.1)
          have q1 : (q == q) = true := by simp
          have q2 : (u2 == u2) = true := by simp
          have hu0 := HO.out.h0
          have huk := HO.out.hu
          have hk8 := HW.out.1
          have p2 : ¬ k < u2 := by omega
          have b0 : -9223372036854775808 ≤ u2 := by omega
          have b1 : u2 ≤ 9223372036854775807 := by omega
          clear hst hv hu0 huk hk8
          go_wp2_with fail
          with_reducible refine HE.out.mono ?_
          rintro e w3 ⟨rfl, H3⟩
          have H3 := Lib.hid H3
          clear HE
          go_wp2_with fail
          with_reducible refine H3.out.used.mono ?_
          rintro e w4 ⟨rfl, hw4⟩
          subst hw4
          go_wp2_with fail
          with_reducible refine H3.out.win.mono ?_
          rintro e w4 ⟨rfl, hw4⟩
          subst hw4
          go_wp2_with fail
          go_roundg (200 - (j : Int)).toNat
          case measure => exact hig
          case rel => exact ⟨(j : Int) + 1, nx, q, u2, rfl, rfl, rfl, by go_num, by omega, by omega, by omega, nx0, HQ.out.2.2.2.2, HQ.out.2.1, H3.out⟩
      · by_cases hfu : 0 = k
        · have hst := step_new (u := u) (k := k) HQ.out.2.2.2.1 hqc
          have hv : ch q c u k = false ∧ nu q c u k = 0 := by unfold ch nu; rw [hst.2, if_pos hfu]; exact ⟨decide_eq_false (fun h => h hfu), rfl⟩
          have HE := Lib.hid (HO.out.charge HQ.out.1 HQ.out.2.1 hst.1 hv.2 hv.1)
          have q1 : (q == q) = true := by simp
          have q2 : True := trivial
          have p1 : ¬ 0 < k := by omega
          have hu0 := HO.out.h0
          have huk := HO.out.hu
          have hk8 := HW.out.1
          have p2 : ¬ k < 0 := by omega
          clear hst hv hu0 huk hk8 hfu
          go_wp2_with fail
          with_reducible refine HE.out.mono ?_
          rintro e w3 ⟨rfl, H3⟩
          have H3 := Lib.hid H3
          clear HE
          go_wp2_with fail
          with_reducible refine H3.out.used.mono ?_
          rintro e w4 ⟨rfl, hw4⟩
          subst hw4
          go_wp2_with fail
          with_reducible refine H3.out.win.mono ?_
          rintro e w4 ⟨rfl, hw4⟩
          subst hw4
          go_wp2_with fail
          go_roundg (200 - (j : Int)).toNat
          case measure => exact hig
          case rel => exact ⟨(j : Int) + 1, nx, q, 0, rfl, rfl, rfl, by go_num, by omega, by omega, by omega, nx0, HQ.out.2.2.2.2, HQ.out.2.1, H3.out⟩
        · have hst := step_new (u := u) (k := k) HQ.out.2.2.2.1 hqc
          have hv : ch q c u k = true ∧ nu q c u k = 1 := by unfold ch nu; rw [hst.2, if_neg hfu]; exact ⟨decide_eq_true hfu, rfl⟩
          have HE := Lib.hid (HO.out.charge HQ.out.1 HQ.out.2.1 hst.1 hv.2 hv.1)
          have q1 : (q == q) = true := by simp
          have q2 : True := trivial
          have hu0 := HO.out.h0
          have huk := HO.out.hu
          have hk8 := HW.out.1
          have p2 : ¬ k < 1 := by omega
          clear hst hv hu0 huk hk8
          go_wp2_with fail
          with_reducible refine HE.out.mono ?_
          rintro e w3 ⟨rfl, H3⟩
          have H3 := Lib.hid H3
          clear HE
          go_wp2_with fail
          with_reducible refine H3.out.used.mono ?_
          rintro e w4 ⟨rfl, hw4⟩
          subst hw4
          go_wp2_with fail
          with_reducible refine H3.out.win.mono ?_
          rintro e w4 ⟨rfl, hw4⟩
          subst hw4
          go_wp2_with fail
          go_roundg (200 - (j : Int)).toNat
          case measure => exact hig
          case rel => exact ⟨(j : Int) + 1, nx, q, 1, rfl, rfl, rfl, by go_num, by omega, by omega, by omega, nx0, HQ.out.2.2.2.2, HQ.out.2.1, H3.out⟩
    · by_cases hin1 : i < len
      · have p3 : ¬ i < 200 := by omega
        go_wp2_with fail
        with_reducible refine (awake_any _).mono ?_
        rintro e w3 ⟨rfl, hf3⟩
        have H3 := Lib.hid (HO.out.no hf3)
        clear hf3
        go_wp2_with fail
        go_ret
        exact ⟨rfl, H3.out.fr⟩
      · go_wp2_with fail
        with_reducible refine (awake_any _).mono ?_
        rintro e w3 ⟨rfl, hf3⟩
        have H3 := Lib.hid (HO.out.no hf3)
        clear hf3
        go_wp2_with fail
        go_ret
        exact ⟨rfl, H3.out.fr⟩
end Go.Proofs.Ytfpaihohhedhfaa
