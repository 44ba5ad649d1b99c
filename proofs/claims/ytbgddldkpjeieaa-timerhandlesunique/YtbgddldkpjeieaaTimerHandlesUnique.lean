/-
  The law TimerHandlesUnique returns true for every list of numbers and every due time, and changes nothing that was in memory before.
  Conditions: none beyond the row's own.
-/
import Derived.Test.YtbgddldkpjeieaaUniq
import Derived.WalkKit
import Derived.ProofKit
import Derived.OpenShut
import Derived.ShutString
import Derived.ChangeOld
import Derived.Below
namespace Go.Proofs.Ytbgddldkpjeieaa.timerHandlesUnique
open Go.ChangeShapes Go.WideShapes Go.ChangeAt Go.RowKit
open Go.ChangeMaps (open_string shut_string)
set_option linter.unusedVariables false

theorem own : ownKnob Try.prog.godebug = none := by kernel_rfl
theorem laidOut : laidOutB Try.prog = true := by kernel_rfl

set_option maxHeartbeats 4000000 in
set_option maxRecDepth 100000 in
theorem walk (a0 : Option Addr) (len0 cap0 : Nat) (z0 : List Int) (a1 : Int) (w : World) (w0 : IsRow .i64 w a0 len0 cap0 z0) (w1 : (Lit.int .u64 a1).wf = true) :
    Calls Try.prog 6 #[.slice a0 len0 cap0, .int .u64 a1] w fun e w' => e = .returned (.bool true) ∧ Below w.heap.size w w' := by
  obtain ⟨z, hz⟩ : ∃ z : Nat → Int, z = fun i => z0.getD i 0 := ⟨_, rfl⟩
  have HI : Hid (InRow .i64 w a0 len0 z) := by rw [hz]; exact w0.row
  have hlen := HI.out.1
  have b1 := bounds_u64 w1
  clear hz w0 w1
  obtain ⟨S, hS0⟩ : ∃ S : Nat → Prop, S = fun k => w.heap.size ≤ k := ⟨_, rfl⟩
  have HS : Hid ((∀ w' : World, w.heap.size ≤ w'.heap.size → ∀ k, w'.heap.size ≤ k → S k) ∧ ∀ j, S j → w.heap.size ≤ j) :=
    ⟨fun w' h k hk => by rw [hS0]; exact Nat.le_trans h hk, fun j hj => by rw [hS0] at hj; exact hj⟩
  clear hS0
  go_enter Try.func6, Try.ntmps6
  go_wp2_with fail
  refine (M.tnew_any S _ (HS.out.1 w (Nat.le_refl _))).mono ?_
  rintro e w1 ⟨tb, rfl, htb, hT1, hf1⟩
  have H1 := Lib.hid (And.intro hT1 hf1)
  clear hT1 hf1
  go_wp2_with fail
  go_loopg [6, 7] 51 (fun g s6 s7 wr => ∃ (i : Nat) (L : List Rec) (last : Int), s6 = .int .i64 (last + 1) ∧ s7 = .int .i64 i ∧ i ≤ 50 ∧ 50 - i < g ∧ (0 ≤ last ∧ last ≤ i) ∧ Hid (M.TI S wr tb L last ∧ Fr S w wr))
  case atStart => exact ⟨0, [], 0, rfl, rfl, by omega, by omega, by omega, H1.out.1, H1.out.2.no⟩
  case round =>
    obtain ⟨i, L, last, rfl, rfl, hi50, hig, hll, HR⟩ := hrel
    clear H1
    by_cases hi : i < len0 ∧ i < 50
    · obtain ⟨hi1, hi2⟩ := hi
      obtain ⟨b, off, rfl, c1⟩ := HI.out.cell HR.out.2 HS.out.2 hi1
      have bz := bounds_i64 (HI.out.2 i hi1).2
      have p1 : (0 : Int) ≤ (i : Int) := by omega
      have p2 : (i : Int) < (len0 : Int) := by omega
      have p3 : (i : Int) < 50 := by omega
      go_wp2_with fail
      refine (someHandle_any (z i) _ bz).mono ?_
      rintro e w2 ⟨k, hk, rfl, rfl⟩
      rename World => w2
      have wk : (Lit.int .i64 k).wf = true := WalkArith.wf_i64 hk
      clear c1
      go_wp2_with fail
      refine (M.deadline_either S tb L last k _ HR.out.1 wk).mono ?_
      rintro e w3 ⟨d, m, hm, rfl, hf3⟩
      have H3 := Lib.hid (And.intro (HR.out.1.frNo hf3) (HR.out.2.trans hf3.no))
      clear hf3
      go_wp2_with fail
      refine (M.start_either S tb L last a1 k _ _ H3.out.1 wk (HS.out.1 _ H3.out.2.size) (by omega) b1).mono ?_
      rintro e w4 ⟨L4, ok, hok, rfl, hT4, hf4⟩
      have H4 := Lib.hid (And.intro hT4 (H3.out.2.trans hf4))
      clear hT4 hf4
      have hcase : (ok = true ∧ k = 0) ∨ (ok = true ∧ k ≠ 0 ∧ m = true) ∨ (ok = false ∧ k ≠ 0 ∧ m = false) := by
        by_cases h0 : k = 0
        · exact .inl ⟨hok.2 (.inl h0), h0⟩
        · by_cases h1 : ∃ q ∈ L, q.id = k
          · exact .inr (.inl ⟨hok.2 (.inr h1), h0, hm.2 h1⟩)
          · refine .inr (.inr ⟨?_, h0, ?_⟩)
            · cases ok
              · rfl
              · rcases hok.1 rfl with h | h
                · exact absurd h h0
                · exact absurd h h1
            · cases m
              · rfl
              · exact absurd (hm.1 rfl) h1
      have HW : Hid ((Lit.int .i64 (last + 1)).wf = true ∧ (Lit.int .i64 last).wf = true) := ⟨WalkArith.wf_i64 (by omega), WalkArith.wf_i64 (by omega)⟩
      clear hm hok
      have e1 : last + 1 + 1 - 1 = last + 1 := by omega
      have e2 : last + 1 - 1 = last := by omega
      have hmod : (i : Int).tmod 5 = ((i % 5 : Nat) : Int) := by rw [Int.tmod_eq_emod_of_nonneg (by omega)]; omega
      by_cases h5 : i % 5 = 4
      · rw [h5] at hmod
        have hmod' : (i : Int).tmod 5 = 4 := hmod
        rcases hcase with ⟨rfl, rfl⟩ | ⟨rfl, hk0, rfl⟩ | ⟨rfl, hk0, rfl⟩
        · go_wp2_with fail
          refine (M.cancel_either S tb L4 (last + 1) (last + 1) _ H4.out.1 HW.out.1).mono ?_
          rintro e w5 ⟨n5, L5, rfl, hT5, hf5⟩
          have H5 := Lib.hid (And.intro hT5 (H4.out.2.trans hf5))
          clear hT5 hf5
          go_wp2_with fail
          go_roundg (50 - i)
          case measure => omega
          case rel => exact ⟨i + 1, L5, last + 1, by go_num, by go_num, by omega, by omega, by omega, H5.out.1, H5.out.2⟩
        · go_wp2_with fail
          refine (M.cancel_either S tb L4 (last + 1) (last + 1) _ H4.out.1 HW.out.1).mono ?_
          rintro e w5 ⟨n5, L5, rfl, hT5, hf5⟩
          have H5 := Lib.hid (And.intro hT5 (H4.out.2.trans hf5))
          clear hT5 hf5
          go_wp2_with fail
          go_roundg (50 - i)
          case measure => omega
          case rel => exact ⟨i + 1, L5, last + 1, by go_num, by go_num, by omega, by omega, by omega, H5.out.1, H5.out.2⟩
        · go_wp2_with fail
          refine (M.cancel_either S tb L4 (last) (last) _ H4.out.1 HW.out.2).mono ?_
          rintro e w5 ⟨n5, L5, rfl, hT5, hf5⟩
          have H5 := Lib.hid (And.intro hT5 (H4.out.2.trans hf5))
          clear hT5 hf5
          go_wp2_with fail
          go_roundg (50 - i)
          case measure => omega
          case rel => exact ⟨i + 1, L5, last, by go_num, by go_num, by omega, by omega, by omega, H5.out.1, H5.out.2⟩
      · have hmod' : ¬ ((i : Int).tmod 5 = 4) := by rw [hmod]; omega
        have hmod2 : ((i : Int).tmod 5 == 4) = false := by simpa using hmod'
        rcases hcase with ⟨rfl, rfl⟩ | ⟨rfl, hk0, rfl⟩ | ⟨rfl, hk0, rfl⟩
        · go_wp2_with fail
          go_roundg (50 - i)
          case measure => omega
          case rel => exact ⟨i + 1, L4, last + 1, by go_num, by go_num, by omega, by omega, by omega, H4.out.1, H4.out.2⟩
        · go_wp2_with fail
          go_roundg (50 - i)
          case measure => omega
          case rel => exact ⟨i + 1, L4, last + 1, by go_num, by go_num, by omega, by omega, by omega, H4.out.1, H4.out.2⟩
        · go_wp2_with fail
          go_roundg (50 - i)
          case measure => omega
          case rel => exact ⟨i + 1, L4, last, by go_num, by go_num, by omega, by omega, by omega, H4.out.1, H4.out.2⟩
    · have hend : ((i : Int) < (len0 : Int) → ¬ ((i : Int) < 50)) := by omega
      by_cases hi1 : i < len0
      · have p2 : (i : Int) < (len0 : Int) := by omega
        have p3 : ¬ ((i : Int) < 50) := by omega
        clear hend hi
        go_wp2_with fail
        refine (awake_any _).mono ?_
        rintro e w5 ⟨rfl, hf5⟩
        have H5 := Lib.hid hf5
        clear hf5
        go_wp2_with fail
        go_ret
        exact ⟨rfl, (HR.out.2.trans H5.out.no).below HS.out.2 (Nat.le_refl _)⟩
      · have p2 : ¬ ((i : Int) < (len0 : Int)) := by omega
        clear hend hi
        go_wp2_with fail
        refine (awake_any _).mono ?_
        rintro e w5 ⟨rfl, hf5⟩
        have H5 := Lib.hid hf5
        clear hf5
        go_wp2_with fail
        go_ret
        exact ⟨rfl, (HR.out.2.trans H5.out.no).below HS.out.2 (Nat.le_refl _)⟩

set_option maxRecDepth 100000 in
theorem lifted (os : Os) (started : os.Started) (H : Type) (enc : TypeId × Value → H) :
    ReturnsInHanded {} Try.checked os 6 .any (Rows.timerHandlesUniqueSpec.pre6 enc Try.prog Try.f6 Rows.timerHandlesUniqueRow.domain false) (Rows.timerHandlesUniqueSpec.post enc Try.prog Try.f6 false true false false) := by
  refine returnsInHanded_of_change (C := Try.checked) own started (by kernel_rfl) Try.func6
    (ChangeSpec.witness6 (enc := enc) (C := Try.checked) false ⟨#[], #[.slice none 0 0, .int .u64 0], []⟩ 8 (by kernel_rfl) (by kernel_rfl) (by kernel_rfl) (by kernel_rfl)) ?_
  intro W base args ds gs before hval0 hW hcnd _
  have hval : ∀ (j : Nat) t v, Try.f6.params[j]? = some t → args[j]? = some v → Value.okWide Try.prog W .any base t v := hval0
  have hW' := hW
  obtain ⟨p, q, hA0, hV, rfl, hfz, hnd⟩ := hW
  have hA : DataW.TrodAll enc Try.prog W 0 (fun _ => true) true Try.f6.params.toList args.toList ds p := hA0
  rw [Try.params6] at hA hval
  obtain ⟨v0, vs0, d0, ds0, p0, q0, hargs, rfl, rfl, h0, r0⟩ := trodAll_cons hA
  obtain ⟨v1, vs1, d1, ds1, p1, q1, rfl, rfl, rfl, h1, r1⟩ := trodAll_cons r0
  obtain ⟨rfl, rfl, rfl⟩ := trodAll_nil r1
  obtain rfl : args = #[v0, v1] := by cases args; simp_all
  obtain ⟨rfl, rfl⟩ := trodVars_none hV
  obtain ⟨a0, len0, cap0, rfl⟩ := okWide_slice Try.underlying33 (hval 0 33 v0 rfl rfl)
  have k0 := h0
  have lt0 : ∀ x ∈ p0, x.block < W.heap.size := by obtain ⟨m, hm⟩ := k0; exact DataW.trod_lt m _ _ _ hm
  obtain ⟨z0, w0⟩ : ∃ zs, IsRow .i64 W a0 len0 cap0 zs := by
    obtain ⟨fuel, hf⟩ := h0
    rcases open_ints Try.underlying33 Try.underlying3 (by kernel_rfl) hf with ⟨hcs, _⟩ | ⟨x, l, c, zs, hcs, _, hl, hm, hz, _, hcell, hwz⟩
    · simp [Value.cells] at hcs
      obtain ⟨rfl, rfl, rfl⟩ := hcs
      exact ⟨[], .inl ⟨rfl, rfl, rfl, rfl⟩⟩
    · simp [Value.cells] at hcs
      obtain ⟨rfl, rfl, rfl⟩ := hcs
      exact ⟨zs, .inr ⟨_, rfl, hl, hm, by simpa using hz, hcell, hwz⟩⟩
  obtain ⟨a1, rfl, rfl, rfl, w1⟩ := open_int Try.underlying23 (hval 1 23 v1 rfl rfl) h1
  clear hA0 hval0
  refine (walk a0 len0 cap0 z0 a1 W w0 w1).mono fun e W' ⟨he, bel⟩ => ?_
  subst he
  exact ⟨_, rfl, _, _, _, [], _, [], hW', trodAll_mk1 (shut_bool Try.underlying4 _), (trodAll_cons_mk (Below.trod laidOut (by kernel_rfl) (of_decide_eq_true (by kernel_rfl)) k0 bel lt0) (trodAll_cons_mk (shut_int Try.underlying23 w1) trodAll_mk0)), rfl, bel.frame _, fun h => by cases h⟩

theorem over : Rows.timerHandlesUniqueRow.holds Try.pinned (OpenSpec.ofChange Rows.timerHandlesUniqueSpec) :=
  OpenClaim.holds_of_wide 6 Try.f6 rfl rfl rfl rfl rfl rfl rfl ⟨rfl, rfl, rfl, rfl, rfl⟩ rfl rfl rfl rfl rfl (by kernel_rfl) Try.func6 (by kernel_rfl)
    (of_decide_eq_true (by kernel_rfl)) (by unfold Func.isWrapper; first | (rw [if_pos (by decide +kernel)]; kernel_rfl) | (rw [if_neg (by decide +kernel)]; exact ⟨rfl, rfl⟩))
    (fun os started H enc _ => lifted os started H enc)

end Go.Proofs.Ytbgddldkpjeieaa.timerHandlesUnique

namespace Go.Proofs.Ytbgddldkpjeieaa
/-- The statement. -/
theorem timerHandlesUnique_holds : Rows.TimerHandlesUniqueSaid := timerHandlesUnique.over
#print axioms timerHandlesUnique_holds
end Go.Proofs.Ytbgddldkpjeieaa
