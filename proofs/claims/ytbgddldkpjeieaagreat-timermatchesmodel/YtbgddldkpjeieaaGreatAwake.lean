/-
  CONTRACTS of the remainder, someHandle and awake, over this seat's translation.
  Conditions: integers lie in their kind's range.
-/
import Derived.Test.YtbgddldkpjeieaaGreatMT5
import Derived.Test.YtbgddldkpjeieaaGreatMT2
namespace Go.Proofs.YtbgddldkpjeieaaGreat
open Go.ChangeShapes Go.WideShapes Go.ChangeAt Go.RowKit Go.Maps
set_option linter.unusedVariables false

theorem mod_any (v : Int) (n : Nat) (w : World) (h1 : 1 ≤ n) (h2 : n ≤ 1000) (hv : -9223372036854775808 ≤ v ∧ v ≤ 9223372036854775807) :
    Calls Tryz.prog 7 #[.int .i64 v, .int .i64 n] w fun e w' => ∃ r : Nat, r < n ∧ e = .returned (.int .i64 r) ∧ w' = w := by
  obtain ⟨hv0, hv1⟩ := hv
  have hn0 : ¬ ((n : Int) = 0) := by omega
  go_enter Tryz.func7, Tryz.ntmps7
  go_wp2
  go_ret
  have hu : 0 ≤ IntKind.u64.wrap v := by simp [IntKind.wrap, IntKind.bits, IntKind.signed]; omega
  generalize IntKind.u64.wrap v = u at hu ⊢
  have e1 : u.tmod n = u % n := Int.tmod_eq_emod_of_nonneg hu
  have h3 : 0 ≤ u % (n : Int) := Int.emod_nonneg _ hn0
  have h4 : u % (n : Int) < n := Int.emod_lt_of_pos _ (by omega)
  rw [e1]
  generalize u % (n : Int) = r at h3 h4
  obtain ⟨k, rfl⟩ : ∃ k : Nat, r = k := ⟨r.toNat, by omega⟩
  refine ⟨k, by omega, ret_int ?_, rfl⟩
  unfold wrap64; omega

theorem mod_at (v m : Int) (n : Nat) (w : World) (hm : m = n) (h1 : 1 ≤ n) (h2 : n ≤ 1000) (hv : -9223372036854775808 ≤ v ∧ v ≤ 9223372036854775807) :
    Calls Tryz.prog 7 #[.int .i64 v, .int .i64 m] w fun e w' => ∃ r : Nat, r < n ∧ e = .returned (.int .i64 r) ∧ w' = w := by
  subst hm; exact mod_any v n w h1 h2 hv

theorem someHandle_any (v : Int) (w : World) (hv : -9223372036854775808 ≤ v ∧ v ≤ 9223372036854775807) :
    Calls Tryz.prog 5 #[.int .i64 v] w fun e w' => ∃ r : Int, (-9223372036854775808 ≤ r ∧ r ≤ 9223372036854775807) ∧ e = .returned (.int .i64 r) ∧ w' = w := by
  go_enter Tryz.func5, Tryz.ntmps5
  go_wp2_with fail
  refine (mod_at v 11 11 _ rfl (by omega) (by omega) hv).mono ?_
  rintro e w1 ⟨r, hr, rfl, rfl⟩
  by_cases h : r = 10
  · subst h
    go_wp2_with fail
    go_ret
    exact ⟨v, hv, rfl, rfl⟩
  · have h2 : ((r : Int) == 10) = false := by simp; omega
    have h3 : ¬ ((r : Int) = 10) := by omega
    go_wp2_with fail
    refine (mod_at v 24 24 _ rfl (by omega) (by omega) hv).mono ?_
    rintro e w2 ⟨s, hs, rfl, rfl⟩
    go_wp2_with fail
    go_ret
    exact ⟨s, by omega, rfl, rfl⟩

def sd (d : Int) : Int := if d % 9 = 8 then d else d % 25
theorem sd_bd {d : Int} (hd : 0 ≤ d ∧ d ≤ 18446744073709551615) : 0 ≤ sd d ∧ sd d ≤ 18446744073709551615 := by unfold sd; split <;> omega

theorem someDue_any (d : Int) (w : World) (hd : 0 ≤ d ∧ d ≤ 18446744073709551615) : Calls Tryz.prog 6 #[.int .u64 d] w fun e w' => e = .returned (.int .u64 (sd d)) ∧ w' = w := by
  obtain ⟨h0, h1⟩ := hd
  have e7 : d.tmod 9 = d % 9 := Int.tmod_eq_emod_of_nonneg h0
  have e9 : d.tmod 25 = d % 25 := Int.tmod_eq_emod_of_nonneg h0
  by_cases h : d % 9 = 8
  · go_enter Tryz.func6, Tryz.ntmps6
    go_wp2
    go_ret
    exact ⟨ret_int (by unfold sd; rw [if_pos (by omega)]), rfl⟩
  · go_enter Tryz.func6, Tryz.ntmps6
    go_wp2
    go_ret
    exact ⟨ret_int (by unfold sd; rw [if_neg (by omega)]), rfl⟩

def aw1 : Rec := ⟨0 + 1, 10, 0, Value.string { data := #[97] }⟩
def aw2 : Rec := ⟨0 + 1 + 1, 20, aw1.id, Value.string { data := #[98] }⟩

theorem aw_rest : (rest ([] ++ [aw1] ++ [aw2]) aw1.id) = [] := by
  refine List.eq_nil_iff_forall_not_mem.2 fun r hr => ?_
  obtain ⟨h1, h2⟩ := mem_rest.1 hr
  simp at h1
  rcases h1 with rfl | rfl
  · exact h2 .self
  · exact h2 (.step aw2 (by simp) .self)

set_option maxHeartbeats 2000000 in
set_option maxRecDepth 100000 in
theorem awake_any (w : World) : Calls Tryz.prog 17 #[] w fun e w' => e = .returned (.bool true) ∧ Fr No w w' := by
  obtain ⟨S, hS0⟩ : ∃ S : Nat → Prop, S = fun k => w.heap.size ≤ k := ⟨_, rfl⟩
  have HS : Hid (∀ w' : World, w.heap.size ≤ w'.heap.size → ∀ k, w'.heap.size ≤ k → S k) := by
    intro w' h k hk; rw [hS0]; exact Nat.le_trans h hk
  go_enter Tryz.func17, Tryz.ntmps17
  go_wp2_with fail
  refine (M.tnew_any S _ (HS.out w (Nat.le_refl _))).mono ?_
  rintro e w1 ⟨tb, rfl, htb, hT1, hf1⟩
  have H1 := Lib.hid (And.intro hT1 hf1)
  clear hT1 hf1
  go_wp2_with fail
  refine (M.start_root S tb [] 0 10 { data := #[97] } _ H1.out.1 (HS.out _ H1.out.2.size) (by omega) (by omega)).mono ?_
  rintro e w2 ⟨rfl, hT2, hf2⟩
  have H2 := Lib.hid (And.intro hT2 (H1.out.2.no.trans hf2))
  clear hT2 hf2
  go_wp2_with fail
  refine (M.start_child S tb ([] ++ [aw1]) (0 + 1) 20 aw1 { data := #[98] } _ H2.out.1 (by simp) (HS.out _ H2.out.2.size) (by omega) (by omega)).mono ?_
  rintro e w3 ⟨rfl, hT3, hf3⟩
  have H3 := Lib.hid (And.intro hT3 (H2.out.2.trans hf3))
  clear hT3 hf3
  go_wp2_with fail
  refine (M.deadline_hit S tb ([] ++ [aw1] ++ [aw2]) (0 + 1 + 1) aw2 _ H3.out.1 (by simp)).mono ?_
  rintro e w4 ⟨d, rfl, hd, hf4⟩
  have hd10 : d = 10 := by
    have h1 : Dl ([] ++ [aw1] ++ [aw2]) aw2.id (min aw2.due aw1.due) := .step aw2 (by simp) (by decide) _ (.root aw1 (by simp) rfl)
    exact (Dl.uniq H3.out.1.wood hd h1).trans (by decide)
  subst hd10
  have H4 := Lib.hid (And.intro (H3.out.1.frNo hf4) (H3.out.2.trans hf4.no))
  clear hd hf4
  go_wp2_with fail
  refine (M.expire_some S tb ([] ++ [aw1] ++ [aw2]) (0 + 1 + 1) 10 _ H4.out.1 ⟨aw1, by simp, by decide⟩).mono ?_
  rintro e w5 ⟨r, hr, hd, hmin, rfl, hT5, hf5⟩
  have hr1 : r = aw1 := by
    simp at hr
    rcases hr with rfl | rfl
    · rfl
    · exact absurd hd (by decide)
  subst hr1
  rw [aw_rest] at hT5
  have H5 := Lib.hid (And.intro hT5 (H4.out.2.trans hf5))
  clear hT5 hf5 hmin hd hr
  simp only [aw1]
  go_wp2_with (go_at_call 41; refine (M.tlen_any S tb [] _ _ H5.out.1).mono ?_; rintro e w6 ⟨rfl, rfl⟩)
  go_ret
  exact ⟨rfl, fr_base (hS0 ▸ H5.out.2)⟩

end Go.Proofs.YtbgddldkpjeieaaGreat
