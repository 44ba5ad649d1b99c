/-
  The law TimerNeverAfterParent returns true for every list of due times, every number and every due time, and changes nothing that was in memory before.
  Conditions: none beyond the row's own.
-/
import Derived.Test.YtbgddldkpjeieaaChain
import Derived.WalkKit
import Derived.ProofKit
import Derived.OpenShut
import Derived.ShutString
import Derived.ChangeOld
import Derived.Below
namespace Go.Proofs.Ytbgddldkpjeieaa.timerNeverAfterParent
open Go.ChangeShapes Go.WideShapes Go.ChangeAt Go.RowKit
open Go.ChangeMaps (open_string shut_string)
set_option linter.unusedVariables false

theorem own : ownKnob Try.prog.godebug = none := by kernel_rfl
theorem laidOut : laidOutB Try.prog = true := by kernel_rfl

set_option maxHeartbeats 8000000 in
set_option maxRecDepth 100000 in
theorem walk (a0 : Option Addr) (len0 cap0 : Nat) (z0 : List Int) (a1 : Int) (a2 : Int) (w : World) (w0 : IsRow .u64 w a0 len0 cap0 z0) (w1 : (Lit.int .i64 a1).wf = true) (w2 : (Lit.int .u64 a2).wf = true) :
    Calls Try.prog 3 #[.slice a0 len0 cap0, .int .i64 a1, .int .u64 a2] w fun e w' => e = .returned (.bool true) ∧ Below w.heap.size w w' := by
  obtain ⟨z, hz⟩ : ∃ z : Nat → Int, z = fun i => z0.getD i 0 := ⟨_, rfl⟩
  have HI : Hid (InRow .u64 w a0 len0 z) := by rw [hz]; exact w0.row
  have hlen := HI.out.1
  have b1 := bounds_i64 w1
  have b2 := bounds_u64 w2
  clear hz w0 w1 w2
  obtain ⟨S, hS0⟩ : ∃ S : Nat → Prop, S = fun k => w.heap.size ≤ k := ⟨_, rfl⟩
  have HS : Hid ((∀ w' : World, w.heap.size ≤ w'.heap.size → ∀ k, w'.heap.size ≤ k → S k) ∧ ∀ j, S j → w.heap.size ≤ j) :=
    ⟨fun w' h k hk => by rw [hS0]; exact Nat.le_trans h hk, fun j hj => by rw [hS0] at hj; exact hj⟩
  clear hS0
  obtain ⟨n, hn1, hn2, hn3⟩ : ∃ n : Nat, n ≤ len0 ∧ n ≤ 30 ∧ (n : Int) = min (len0 : Int) 30 := ⟨min len0 30, by omega, by omega, by omega⟩
  have HN3 := Lib.hid hn3
  clear hn3
  go_enter Try.func3, Try.ntmps3
  go_wp2_with fail
  refine (N.tnew_any S _ (HS.out.1 w (Nat.le_refl _))).mono ?_
  rintro e w1 ⟨tb, rfl, htb, hT1, hf1⟩
  have H1 := Lib.hid (And.intro hT1 hf1)
  clear hT1 hf1
  go_wp2_with fail
  rw [← HN3.out]
  go_loopg [9] (n + 1) (fun g s9 wr => ∃ (i : Nat) (L : List Rec), s9 = .int .i64 i ∧ i ≤ n ∧ n - i < g ∧ Hid (N.TI S wr tb L i ∧ Fr S w wr ∧ Chain L i))
  case atStart => exact ⟨0, [], rfl, by omega, by omega, H1.out.1, H1.out.2.no, Chain.nil⟩
  case round =>
    obtain ⟨i, L, rfl, hin, hig, HR⟩ := hrel
    clear H1
    by_cases hi : i < n
    · obtain ⟨b, off, rfl, c1⟩ := HI.out.cell HR.out.2.1 HS.out.2 (show i < len0 by omega)
      have bz := bounds_u64 (HI.out.2 i (by omega)).2
      have p1 : (0 : Int) ≤ (i : Int) := by omega
      have p2 : (i : Int) < (len0 : Int) := by omega
      have p3 : (i : Int) < (n : Int) := by omega
      go_wp2_with fail
      refine (N.start_at S tb L i (z i) i i _ HR.out.1 (by
        by_cases h0 : i = 0
        · exact .inl (by omega)
        · exact .inr (HR.out.2.2.has i (by omega) (by omega))) (HS.out.1 _ HR.out.2.1.size) (by omega) bz).mono ?_
      rintro e w3 ⟨rfl, hT3, hf3⟩
      have H3 := Lib.hid (And.intro hT3 (And.intro (HR.out.2.1.trans hf3) (HR.out.2.2.start (z i) (.int .i64 i))))
      clear hT3 hf3 c1
      go_wp2_with fail
      go_roundg (n - i)
      case measure => omega
      case rel => exact ⟨i + 1, _, by go_num, by omega, by omega, by simpa using H3.out.1, H3.out.2.1, H3.out.2.2⟩
    · obtain rfl : i = n := by omega
      have p2 : ¬ ((i : Int) < (i : Int)) := by omega
      go_wp2_with fail
      go_loopg [12] 3 (fun g s12 wr => ∃ (k : Nat) (L : List Rec), s12 = .int .i64 k ∧ k ≤ 2 ∧ 2 - k < g ∧ Hid (N.TI S wr tb L i ∧ Fr S w wr ∧ Chain L i))
      case atStart => exact ⟨0, L, by go_num, by omega, by omega, HR.out⟩
      case round =>
        obtain ⟨k, L2, rfl, hk2, hkg, HK⟩ := hrel
        clear HR
        by_cases hk : k < 2
        · have p3 : (k : Int) < 2 := by omega
          go_wp2_with fail
          go_loopg [13, 14] (i + 1) (fun g s13 s14 wr => ∃ (j : Nat) (was : Int), s13 = .int .u64 was ∧ s14 = .int .i64 ((j : Int) + 1) ∧ j ≤ i ∧ i - j < g ∧ Hid (N.TI S wr tb L2 i ∧ Fr S w wr ∧ (j = 0 → was = 18446744073709551615) ∧ (j ≠ 0 → Dl L2 (j : Int) was)))
          case atStart => exact ⟨0, 18446744073709551615, by go_num, by go_num, by omega, by omega, HK.out.1, HK.out.2.1, fun _ => rfl, fun h => absurd rfl h⟩
          case round =>
            obtain ⟨j, was, rfl, rfl, hji, hjg, HJ⟩ := hrel
            by_cases hj : j < i
            · have q1 : (j : Int) + 1 ≤ (i : Int) := by omega
              go_wp2_with fail
              refine (N.deadline_at S tb L2 i ((j : Int) + 1) _ HJ.out.1 (HK.out.2.2.has _ (by omega) (by omega))).mono ?_
              rintro e w4 ⟨d, rfl, hd, hf4⟩
              have hle : ¬ (was < d) := by
                by_cases h0 : j = 0
                · have h1 := HJ.out.2.2.1 h0
                  obtain ⟨q, hq, he⟩ := hd.mem
                  have h2 := Dl.le HJ.out.1.wood hq (by rw [he]; exact hd)
                  have h3 := HJ.out.1.wood.due q hq
                  omega
                · have h1 := HJ.out.2.2.2 h0
                  have := HK.out.2.2.next HJ.out.1.wood (k := (j : Int) + 1) (by omega) hd (by rw [show (j : Int) + 1 - 1 = (j : Int) by omega]; exact h1)
                  omega
              have H4 := Lib.hid (And.intro (HJ.out.1.frNo hf4) (And.intro (HJ.out.2.1.trans hf4.no) hd))
              clear hf4 hd
              go_wp2_with fail
              go_roundg (i - j)
              case measure => omega
              case rel => exact ⟨j + 1, d, rfl, by go_num, by omega, by omega, H4.out.1, H4.out.2.1, fun h => by omega, fun _ => by simpa using H4.out.2.2⟩
            · obtain rfl : j = i := by omega
              have q1 : ¬ ((j : Int) + 1 ≤ (j : Int)) := by omega
              by_cases hn0 : j = 0
              · subst hn0
                go_wp2_with fail
                go_roundg (2 - k)
                case measure => omega
                case rel => exact ⟨k + 1, L2, by go_num, by omega, by omega, HJ.out.1, HJ.out.2.1, HK.out.2.2⟩
              · have q2 : (0 : Int) < (j : Int) := by omega
                go_wp2_with fail
                refine (mod_any a1 j _ (by omega) (by omega) b1).mono ?_
                rintro e w4 ⟨m, hm, rfl, rfl⟩
                go_wp2_with fail
                refine (N.reset_at S tb L2 j a2 _ _ HJ.out.1 (HK.out.2.2.has _ (by omega) (by omega)) b2).mono ?_
                rintro e w5 ⟨rfl, hT5, hf5⟩
                have H5 := Lib.hid (And.intro hT5 (And.intro (HJ.out.2.1.trans hf5) (HK.out.2.2.reset (1 + (m : Int)) a2)))
                clear hT5 hf5
                go_wp2_with fail
                go_roundg (2 - k)
                case measure => omega
                case rel => exact ⟨k + 1, _, by go_num, by omega, by omega, H5.out⟩
        · obtain rfl : k = 2 := by omega
          go_wp2_with fail
          refine (awake_any _).mono ?_
          rintro e w4 ⟨rfl, hf4⟩
          have H4 := Lib.hid (And.intro (HK.out.1.frNo hf4) (HK.out.2.1.trans hf4.no))
          clear hf4
          by_cases hn0 : i = 0
          · subst hn0
            have hL0 : L2 = [] := List.length_eq_zero_iff.1 HK.out.2.2.len
            go_wp2_with fail
            refine (N.desc_miss S tb L2 _ 1 _ H4.out.1 (WalkArith.wf_i64 (by omega)) (by rw [hL0]; simp)).mono ?_
            rintro e w5 ⟨rfl, rfl⟩
            go_wp2_with fail
            go_ret
            exact ⟨rfl, H4.out.2.below HS.out.2 (Nat.le_refl _)⟩
          · go_wp2_with fail
            refine (N.desc_at S tb L2 _ 1 _ H4.out.1 (HK.out.2.2.has 1 (by omega) (by omega))).mono ?_
            rintro e w5 ⟨a, m, cap, hm, rfl, hf5⟩
            have hmi : max 0 ((i : Int) - 1) = (m : Int) := by
              have := HK.out.2.2.fam HK.out.1.wood
              omega
            have H5 := Lib.hid (H4.out.2.trans hf5.no)
            clear hf5 hm
            go_wp2_with fail
            go_ret
            exact ⟨rfl, H5.out.below HS.out.2 (Nat.le_refl _)⟩

set_option maxRecDepth 100000 in
theorem lifted (os : Os) (started : os.Started) (H : Type) (enc : TypeId × Value → H) :
    ReturnsInHanded {} Try.checked os 3 .any (Rows.timerNeverAfterParentSpec.pre6 enc Try.prog Try.f3 Rows.timerNeverAfterParentRow.domain false) (Rows.timerNeverAfterParentSpec.post enc Try.prog Try.f3 false true false false) := by
  refine returnsInHanded_of_change (C := Try.checked) own started (by kernel_rfl) Try.func3
    (ChangeSpec.witness6 (enc := enc) (C := Try.checked) false ⟨#[], #[.slice none 0 0, .int .i64 0, .int .u64 0], []⟩ 8 (by kernel_rfl) (by kernel_rfl) (by kernel_rfl) (by kernel_rfl)) ?_
  intro W base args ds gs before hval0 hW hcnd _
  have hval : ∀ (j : Nat) t v, Try.f3.params[j]? = some t → args[j]? = some v → Value.okWide Try.prog W .any base t v := hval0
  have hW' := hW
  obtain ⟨p, q, hA0, hV, rfl, hfz, hnd⟩ := hW
  have hA : DataW.TrodAll enc Try.prog W 0 (fun _ => true) true Try.f3.params.toList args.toList ds p := hA0
  rw [Try.params3] at hA hval
  obtain ⟨v0, vs0, d0, ds0, p0, q0, hargs, rfl, rfl, h0, r0⟩ := trodAll_cons hA
  obtain ⟨v1, vs1, d1, ds1, p1, q1, rfl, rfl, rfl, h1, r1⟩ := trodAll_cons r0
  obtain ⟨v2, vs2, d2, ds2, p2, q2, rfl, rfl, rfl, h2, r2⟩ := trodAll_cons r1
  obtain ⟨rfl, rfl, rfl⟩ := trodAll_nil r2
  obtain rfl : args = #[v0, v1, v2] := by cases args; simp_all
  obtain ⟨rfl, rfl⟩ := trodVars_none hV
  obtain ⟨a0, len0, cap0, rfl⟩ := okWide_slice Try.underlying22 (hval 0 22 v0 rfl rfl)
  have k0 := h0
  have lt0 : ∀ x ∈ p0, x.block < W.heap.size := by obtain ⟨m, hm⟩ := k0; exact DataW.trod_lt m _ _ _ hm
  obtain ⟨z0, w0⟩ : ∃ zs, IsRow .u64 W a0 len0 cap0 zs := by
    obtain ⟨fuel, hf⟩ := h0
    rcases open_ints Try.underlying22 Try.underlying23 (by kernel_rfl) hf with ⟨hcs, _⟩ | ⟨x, l, c, zs, hcs, _, hl, hm, hz, _, hcell, hwz⟩
    · simp [Value.cells] at hcs
      obtain ⟨rfl, rfl, rfl⟩ := hcs
      exact ⟨[], .inl ⟨rfl, rfl, rfl, rfl⟩⟩
    · simp [Value.cells] at hcs
      obtain ⟨rfl, rfl, rfl⟩ := hcs
      exact ⟨zs, .inr ⟨_, rfl, hl, hm, by simpa using hz, hcell, hwz⟩⟩
  obtain ⟨a1, rfl, rfl, rfl, w1⟩ := open_int Try.underlying3 (hval 1 3 v1 rfl rfl) h1
  obtain ⟨a2, rfl, rfl, rfl, w2⟩ := open_int Try.underlying23 (hval 2 23 v2 rfl rfl) h2
  clear hA0 hval0
  refine (walk a0 len0 cap0 z0 a1 a2 W w0 w1 w2).mono fun e W' ⟨he, bel⟩ => ?_
  subst he
  exact ⟨_, rfl, _, _, _, [], _, [], hW', trodAll_mk1 (shut_bool Try.underlying4 _), (trodAll_cons_mk (Below.trod laidOut (by kernel_rfl) (of_decide_eq_true (by kernel_rfl)) k0 bel lt0) (trodAll_cons_mk (shut_int Try.underlying3 w1) (trodAll_cons_mk (shut_int Try.underlying23 w2) trodAll_mk0))), rfl, bel.frame _, fun h => by cases h⟩

theorem over : Rows.timerNeverAfterParentRow.holds Try.pinned (OpenSpec.ofChange Rows.timerNeverAfterParentSpec) :=
  OpenClaim.holds_of_wide 3 Try.f3 rfl rfl rfl rfl rfl rfl rfl ⟨rfl, rfl, rfl, rfl, rfl⟩ rfl rfl rfl rfl rfl (by kernel_rfl) Try.func3 (by kernel_rfl)
    (of_decide_eq_true (by kernel_rfl)) (by unfold Func.isWrapper; first | (rw [if_pos (by decide +kernel)]; kernel_rfl) | (rw [if_neg (by decide +kernel)]; exact ⟨rfl, rfl⟩))
    (fun os started H enc _ => lifted os started H enc)

end Go.Proofs.Ytbgddldkpjeieaa.timerNeverAfterParent

namespace Go.Proofs.Ytbgddldkpjeieaa
/-- The statement. -/
theorem timerNeverAfterParent_holds : Rows.TimerNeverAfterParentSaid := timerNeverAfterParent.over
#print axioms timerNeverAfterParent_holds
end Go.Proofs.Ytbgddldkpjeieaa
