/-
  CONTRACTS of the generators' Mod and of awake, over this seat's translation; a budget that a law holds.
  Conditions: as each theorem says.
-/
import Derived.Test.YtfpaihohhedhfaaB
namespace Go.Proofs.Ytfpaihohhedhfaa
open Go.ChangeShapes Go.WideShapes Go.ChangeAt Go.RowKit
set_option linter.unusedVariables false

set_option maxHeartbeats 1000000 in
set_option maxRecDepth 100000 in
theorem mod_fix (i : Int) (N : Int) (h0 : 0 < N) (hN : N < 4611686018427387904) : ∃ p : Int, (0 ≤ p ∧ p < N) ∧ ∀ w,
    Calls Try.prog 13 #[.int .i64 i, .int .i64 N] w fun e w' => e = .returned (.int .i64 p) ∧ w' = w := by
  have hu : IntKind.u64.wrap N = N := by rw [show IntKind.u64.wrap N = N % 18446744073709551616 from rfl]; omega
  have hn0 : ¬ N = 0 := by omega
  have hw : ∃ p : Int, (0 ≤ p ∧ p < N) ∧ wrap64 ((IntKind.u64.wrap i).tmod N) = p := by
    have h1 : 0 ≤ IntKind.u64.wrap i := by rw [show IntKind.u64.wrap i = i % 18446744073709551616 from rfl]; omega
    rw [Int.tmod_eq_emod_of_nonneg h1]
    have h2 := Int.emod_nonneg (IntKind.u64.wrap i) hn0
    have h3 := Int.emod_lt_of_pos (IntKind.u64.wrap i) h0
    generalize IntKind.u64.wrap i % N = q at h2 h3
    exact ⟨q, ⟨h2, h3⟩, by unfold wrap64; omega⟩
  obtain ⟨p, hp, he⟩ := hw
  refine ⟨p, hp, fun w => ?_⟩
  have HE := Lib.hid (And.intro hp he)
  clear hp he
  go_enter Try.func13, Try.ntmps13
  go_wp2_with fail
  go_ret
  exact ⟨by rw [← HE.out.2]; rfl, rfl⟩

/-- A budget of the program that a law made: no block that was there before is touched. -/
structure One (w0 w : World) (b : Nat) (l wd c u : Int) : Prop where
  bd : Bd w b l wd c u
  new : w0.heap.size ≤ b
  fr : Fr No w0 w
  hl : l ≤ 1000
  hu : u ≤ l
  h0 : 0 ≤ u
  hw : 1 ≤ wd

section
variable {w0 w : World} {b : Nat} {l wd c u : Int}
theorem One.no {w' : World} (h : One w0 w b l wd c u) (hf : Fr No w w') : One w0 w' b l wd c u :=
  ⟨h.bd.no hf, h.new, h.fr.trans hf, h.hl, h.hu, h.h0, h.hw⟩
theorem One.used (h : One w0 w b l wd c u) : Calls Try.prog 10 #[.pointer (some ⟨b, 0, none⟩)] w fun e w' => e = .returned (.int .i64 u) ∧ w' = w := used_any b l wd c u w h.bd
theorem One.win (h : One w0 w b l wd c u) : Calls Try.prog 11 #[.pointer (some ⟨b, 0, none⟩)] w fun e w' => e = .returned (.int .u64 c) ∧ w' = w := win_any b l wd c u w h.bd
theorem One.charge (h : One w0 w b l wd c u) {a q c' u' : Int} {v : Bool} (ha : U64 a) (hq : a / wd = q) (hc : cw q c = c') (hu : nu q c u l = u') (hv : ch q c u l = v) :
    Calls Try.prog 15 #[.pointer (some ⟨b, 0, none⟩), .int .u64 a] w fun e w' => e = .returned (.bool v) ∧ One w0 w' b l wd c' u' := by
  refine (charge_any b l wd c u a q c' u' v w h.bd h.hl h.h0 h.hu ha h.hw hq hc hu hv).mono ?_
  rintro e w' ⟨he, hb, hf⟩
  have hs := charge_step q c u l h.hu h.h0
  rw [hu] at hs
  exact ⟨he, hb, h.new, h.fr.ofNew hf fun k hk => .inr (by rw [hk]; exact h.new), h.hl, hs.2.2.1, hs.2.2.2, h.hw⟩
theorem One.rem (h : One w0 w b l wd c u) {a q r : Int} (ha : U64 a) (hq : a / wd = q) (hr : l - cu q c u = r) :
    Calls Try.prog 12 #[.pointer (some ⟨b, 0, none⟩), .int .u64 a] w fun e w' => e = .returned (.int .i64 r) ∧ One w0 w' b l wd c u := by
  refine (rem_any b l wd c u a q r w h.bd h.hl h.h0 h.hu ha h.hw hq hr).mono ?_
  rintro e w' ⟨he, hf⟩
  exact ⟨he, h.no hf⟩
end

theorem new_one (n wd : Int) (w0 w : World) (hf : Fr No w0 w) (h : 0 ≤ n ∧ n ≤ 1000 ∧ 1 ≤ wd ∧ wd ≤ 1099511627776) :
    Calls Try.prog 7 #[.int .i64 n, .int .u64 wd] w fun e w' => ∃ b, e = .returned (.tuple #[.pointer (some ⟨b, 0, none⟩), .int .i64 0]) ∧ One w0 w' b n wd 0 0 := by
  refine (new_yes n wd w h).mono ?_
  rintro e w' ⟨⟨x, he, hx, hb⟩, hf'⟩
  exact ⟨x, he, hb, Nat.le_trans hf.size hx, hf.trans hf', by omega, by omega, by omega, by omega⟩

set_option maxHeartbeats 4000000 in
theorem awake_any (w : World) : Calls Try.prog 9 #[] w fun e w' => e = .returned (.bool true) ∧ Fr No w w' := by
  have HN := Lib.hid (new_no (-1) 10)
  go_enter Try.func9, Try.ntmps9
  go_wp2_with fail
  refine (new_one 1 10 w w (Fr.refl _ _) (by omega)).mono ?_
  rintro e w1 ⟨b, rfl, H1⟩
  have H1 := Lib.hid H1
  go_wp2_with fail
  refine (HN.out w1 (by omega) (by unfold U64; omega) (by omega)).mono ?_
  rintro e w2 ⟨rfl, hw2⟩
  subst hw2
  go_wp2_with fail
  refine (H1.out.charge (a := 5) (q := 0) (c' := 0) (u' := 1) (v := true) (by unfold U64; omega) (by decide) (by decide) (by decide) (by decide)).mono ?_
  rintro e w3 ⟨rfl, H3⟩
  have H3 := Lib.hid H3
  go_wp2_with fail
  refine (H3.out.charge (a := 9) (q := 0) (c' := 0) (u' := 1) (v := false) (by unfold U64; omega) (by decide) (by decide) (by decide) (by decide)).mono ?_
  rintro e w4 ⟨rfl, H4⟩
  have H4 := Lib.hid H4
  go_wp2_with fail
  refine (H4.out.charge (a := 10) (q := 1) (c' := 1) (u' := 1) (v := true) (by unfold U64; omega) (by decide) (by decide) (by decide) (by decide)).mono ?_
  rintro e w5 ⟨rfl, H5⟩
  have H5 := Lib.hid H5
  go_wp2_with fail
  refine (H5.out.charge (a := 3) (q := 0) (c' := 1) (u' := 1) (v := false) (by unfold U64; omega) (by decide) (by decide) (by decide) (by decide)).mono ?_
  rintro e w6 ⟨rfl, H6⟩
  have H6 := Lib.hid H6
  go_wp2_with fail
  refine (H6.out.win).mono ?_
  rintro e w7 ⟨rfl, hw7⟩
  subst hw7
  go_wp2_with fail
  refine (H6.out.used).mono ?_
  rintro e w7 ⟨rfl, hw7⟩
  subst hw7
  go_wp2_with fail
  refine (H6.out.rem (a := 30) (q := 3) (r := 1) (by unfold U64; omega) (by decide) (by decide)).mono ?_
  rintro e w8 ⟨rfl, H8⟩
  have H8 := Lib.hid H8
  go_wp2_with fail
  refine (H8.out.rem (a := 11) (q := 1) (r := 0) (by unfold U64; omega) (by decide) (by decide)).mono ?_
  rintro e w9 ⟨rfl, H9⟩
  have H9 := Lib.hid H9
  go_wp2_with fail
  go_ret
  exact ⟨rfl, H9.out.fr⟩
end Go.Proofs.Ytfpaihohhedhfaa
