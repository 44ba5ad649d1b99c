/-
  The law TimerExpiryOrder returns true for every list of due times and every time, and changes nothing that was in memory before.
  Conditions: none beyond the row's own.
-/
import Derived.Test.YtbgddldkpjeieaaExp
import Derived.WalkKit
import Derived.ProofKit
import Derived.OpenShut
import Derived.ShutString
import Derived.ChangeOld
import Derived.Below
namespace Go.Proofs.Ytbgddldkpjeieaa.timerExpiryOrder
open Go.ChangeShapes Go.WideShapes Go.ChangeAt Go.RowKit
open Go.ChangeMaps (open_string shut_string)
set_option linter.unusedVariables false

theorem own : ownKnob Try.prog.godebug = none := by kernel_rfl
theorem laidOut : laidOutB Try.prog = true := by kernel_rfl

set_option maxHeartbeats 8000000 in
set_option maxRecDepth 100000 in
theorem walk (a0 : Option Addr) (len0 cap0 : Nat) (z0 : List Int) (a1 : Int) (w : World) (w0 : IsRow .u64 w a0 len0 cap0 z0) (w1 : (Lit.int .u64 a1).wf = true) :
    Calls Try.prog 4 #[.slice a0 len0 cap0, .int .u64 a1] w fun e w' => e = .returned (.bool true) ∧ Below w.heap.size w w' := by
  obtain ⟨z, hz⟩ : ∃ z : Nat → Int, z = fun i => z0.getD i 0 := ⟨_, rfl⟩
  have HI : Hid (InRow .u64 w a0 len0 z) := by rw [hz]; exact w0.row
  have hlen := HI.out.1
  have b1 := bounds_u64 w1
  clear hz w0 w1
  obtain ⟨S, hS0⟩ : ∃ S : Nat → Prop, S = fun k => w.heap.size ≤ k := ⟨_, rfl⟩
  have HS : Hid ((∀ w' : World, w.heap.size ≤ w'.heap.size → ∀ k, w'.heap.size ≤ k → S k) ∧ ∀ j, S j → w.heap.size ≤ j) :=
    ⟨fun w' h k hk => by rw [hS0]; exact Nat.le_trans h hk, fun j hj => by rw [hS0] at hj; exact hj⟩
  clear hS0
  obtain ⟨n, hn1, hn2, hn3⟩ : ∃ n : Nat, n ≤ len0 ∧ n ≤ 60 ∧ (n : Int) = min (len0 : Int) 60 := ⟨min len0 60, by omega, by omega, by omega⟩
  have HN3 := Lib.hid hn3
  clear hn3
  go_enter Try.func4, Try.ntmps4
  go_wp2_with fail
  refine (N.tnew_any S _ (HS.out.1 w (Nat.le_refl _))).mono ?_
  rintro e w1 ⟨tb, rfl, htb, hT1, hf1⟩
  have H1 := Lib.hid (And.intro hT1 hf1)
  clear hT1 hf1
  go_wp2_with fail
  rw [← HN3.out]
  go_loopg [7, 8] (n + 1) (fun g s7 s8 wr => ∃ (i d : Nat), s7 = .int .i64 d ∧ s8 = .int .i64 i ∧ i ≤ n ∧ n - i < g ∧ d ≤ i ∧ Hid (N.TI S wr tb (roots z i) i ∧ Fr S w wr ∧ d = dueN (roots z i) a1))
  case atStart => exact ⟨0, 0, rfl, rfl, by omega, by omega, by omega, H1.out.1, H1.out.2.no, rfl⟩
  case round =>
    obtain ⟨i, d, rfl, rfl, hin, hig, hdi, HR⟩ := hrel
    clear H1
    by_cases hi : i < n
    · obtain ⟨b, off, rfl, c1⟩ := HI.out.cell HR.out.2.1 HS.out.2 (show i < len0 by omega)
      have bz := bounds_u64 (HI.out.2 i (by omega)).2
      have p1 : (0 : Int) ≤ (i : Int) := by omega
      have p2 : (i : Int) < (len0 : Int) := by omega
      have p3 : (i : Int) < (n : Int) := by omega
      go_wp2_with fail
      refine (N.start_root S tb (roots z i) i (z i) i _ HR.out.1 (HS.out.1 _ HR.out.2.1.size) (by omega) bz).mono ?_
      rintro e w3 ⟨rfl, hT3, hf3⟩
      rw [roots_succ] at hT3
      have hF3 := HR.out.2.1.trans hf3
      obtain ⟨b', off', hb', c3⟩ := HI.out.cell hF3 HS.out.2 (show i < len0 by omega)
      cases hb'
      have H3 := Lib.hid (And.intro hT3 hF3)
      clear hT3 hf3 hF3 c1
      have hdn : Hid (dueN (roots z (i + 1)) a1 = d + (if z i ≤ a1 then 1 else 0)) := Lib.hid (by rw [← roots_succ, dueN_snoc, ← HR.out.2.2])
      by_cases hle : z i ≤ a1
      · go_wp2_with fail
        go_roundg (n - i)
        case measure => omega
        case rel => exact ⟨i + 1, d + 1, by go_num, by go_num, by omega, by omega, by omega, by simpa using H3.out.1, H3.out.2, by rw [hdn.out, if_pos hle]⟩
      · go_wp2_with fail
        go_roundg (n - i)
        case measure => omega
        case rel => exact ⟨i + 1, d, by go_num, by go_num, by omega, by omega, by omega, by simpa using H3.out.1, H3.out.2, by rw [hdn.out, if_neg (by omega)]; rfl⟩
    · obtain rfl : i = n := by omega
      have p2 : ¬ ((i : Int) < (i : Int)) := by omega
      go_wp2_with fail
      go_loopg [9, 10, 11] (d + 1) (fun g sw se si wr => ∃ (j : Nat) (was elder : Int) (L : List Rec), sw = .int .u64 was ∧ se = .int .i64 elder ∧ si = .int .i64 j ∧ j ≤ d ∧ d - j < g ∧
        Hid (N.TI S wr tb L i ∧ Fr S w wr ∧ (∀ r ∈ L, r ∈ roots z i) ∧ dueN L a1 + j = d ∧ L.length + j = i ∧ ∀ r ∈ L, was < r.due ∨ (was = r.due ∧ elder ≤ r.id)))
      case atStart =>
        refine ⟨0, 0, 0, roots z i, by go_num, by go_num, by go_num, by omega, by omega, HR.out.1, HR.out.2.1, fun r h => h, HR.out.2.2.symm, by simp [roots_length], fun r hr => ?_⟩
        have h1 := HR.out.1.wood.due r hr
        have h2 := HR.out.1.wood.id r hr
        omega
      case round =>
        obtain ⟨j, was, elder, L, rfl, rfl, rfl, hjd, hjg, HL⟩ := hrel
        have hroot : Hid (∀ r ∈ L, r.par = 0) := fun r hr => by obtain ⟨q, _, rfl⟩ := roots_mem (HL.out.2.2.1 r hr); rfl
        by_cases hj : j < d
        · have p1 : (0 : Int) ≤ (j : Int) := by omega
          have p2 : (j : Int) < (d : Int) := by omega
          go_wp2_with fail
          refine (N.expire_some S tb L i a1 _ HL.out.1 (dueN_pos (by have := HL.out.2.2.2.1; omega))).mono ?_
          rintro e w3 ⟨r, hr, hdue, hmin, rfl, hT3, hf3⟩
          have hF3 := HL.out.2.1.trans hf3
          have hcnt := flat_rest (now := a1) HL.out.1.wood hroot.out hr
          have hlow := HL.out.2.2.2.2.2 r hr
          obtain ⟨q, hq, rfl⟩ := roots_mem (HL.out.2.2.1 r hr)
          obtain ⟨b, off, rfl, c3⟩ := HI.out.cell hF3 HS.out.2 (show q < len0 by omega)
          have H3 : Hid (N.TI S w3 tb (rest L (rootAt z q).id) i ∧ Fr S w w3 ∧ (∀ r ∈ rest L (rootAt z q).id, r ∈ roots z i) ∧ dueN (rest L (rootAt z q).id) a1 + (j + 1) = d ∧ (rest L (rootAt z q).id).length + (j + 1) = i ∧ ∀ r ∈ rest L (rootAt z q).id, z q < r.due ∨ (z q = r.due ∧ (q : Int) + 1 ≤ r.id)) := by
            obtain ⟨h1, h2, h3, h4, h5, h6⟩ := HL.out
            have h7 := hcnt.2 hdue
            exact ⟨hT3, hF3, fun r hr => h3 r (mem_rest.1 hr).1, by omega, by have := hcnt.1; omega, fun r hr => hmin r (mem_rest.1 hr).1⟩
          clear hT3 hf3 hF3 hcnt hr hmin
          unfold rootAt at hdue hlow ⊢
          simp only at hdue hlow
          have p3 : (0 : Int) ≤ (q : Int) := by omega
          have p4 : (q : Int) < (len0 : Int) := by omega
          have p5 : ((q : Int) + 1 - 1) = (q : Int) := by omega
          have p6 : ¬ ((i : Int) ≤ (q : Int)) := by omega
          have p7 : (q : Int) < (i : Int) := by omega
          have p8 : ¬ (a1 < z q) := by omega
          have p9 : ¬ (z q < was) := by omega
          by_cases hj0 : j = 0
          · subst hj0
            clear hlow
            go_wp2_with fail
            go_roundg (d - 0)
            case measure => omega
            case rel => exact ⟨0 + 1, z q, (q : Int) + 1, _, rfl, rfl, by go_num, by omega, by omega, H3.out⟩
          · have hj1 : (0 : Int) < (j : Int) := by omega
            by_cases hzw : z q = was
            · have hel : ¬ ((q : Int) + 1 < elder) := by omega
              subst hzw
              clear hlow
              go_wp2_with fail
              go_roundg (d - j)
              case measure => omega
              case rel => exact ⟨j + 1, z q, (q : Int) + 1, _, rfl, rfl, by go_num, by omega, by omega, H3.out⟩
            · clear hlow
              go_wp2_with fail
              go_roundg (d - j)
              case measure => omega
              case rel => exact ⟨j + 1, z q, (q : Int) + 1, _, rfl, rfl, by go_num, by omega, by omega, H3.out⟩
        · obtain rfl : j = d := by omega
          have p2 : ¬ ((j : Int) < (j : Int)) := by omega
          have hlenL : (L.length : Int) = (i : Int) - (j : Int) := by have := HL.out.2.2.2.2.1; omega
          go_wp2_with fail
          refine (N.expire_none S tb L i a1 _ HL.out.1 (dueN_zero (by have := HL.out.2.2.2.1; omega))).mono ?_
          rintro e w3 ⟨rfl, hf3⟩
          have H3 := Lib.hid (And.intro (HL.out.1.frNo hf3) (HL.out.2.1.trans hf3.no))
          clear hf3
          go_wp2_with fail
          refine (awake_any _).mono ?_
          rintro e w4 ⟨rfl, hf4⟩
          have H4 := Lib.hid (And.intro (H3.out.1.frNo hf4) (H3.out.2.trans hf4.no))
          clear hf4
          go_wp2_with fail
          refine (N.tlen_any S tb L _ _ H4.out.1).mono ?_
          rintro e w5 ⟨rfl, rfl⟩
          rw [hlenL]
          go_wp2_with fail
          go_ret
          exact ⟨rfl, H4.out.2.below HS.out.2 (Nat.le_refl _)⟩

set_option maxRecDepth 100000 in
theorem lifted (os : Os) (started : os.Started) (H : Type) (enc : TypeId × Value → H) :
    ReturnsInHanded {} Try.checked os 4 .any (Rows.timerExpiryOrderSpec.pre6 enc Try.prog Try.f4 Rows.timerExpiryOrderRow.domain false) (Rows.timerExpiryOrderSpec.post enc Try.prog Try.f4 false true false false) := by
  refine returnsInHanded_of_change (C := Try.checked) own started (by kernel_rfl) Try.func4
    (ChangeSpec.witness6 (enc := enc) (C := Try.checked) false ⟨#[], #[.slice none 0 0, .int .u64 0], []⟩ 8 (by kernel_rfl) (by kernel_rfl) (by kernel_rfl) (by kernel_rfl)) ?_
  intro W base args ds gs before hval0 hW hcnd _
  have hval : ∀ (j : Nat) t v, Try.f4.params[j]? = some t → args[j]? = some v → Value.okWide Try.prog W .any base t v := hval0
  have hW' := hW
  obtain ⟨p, q, hA0, hV, rfl, hfz, hnd⟩ := hW
  have hA : DataW.TrodAll enc Try.prog W 0 (fun _ => true) true Try.f4.params.toList args.toList ds p := hA0
  rw [Try.params4] at hA hval
  obtain ⟨v0, vs0, d0, ds0, p0, q0, hargs, rfl, rfl, h0, r0⟩ := trodAll_cons hA
  obtain ⟨v1, vs1, d1, ds1, p1, q1, rfl, rfl, rfl, h1, r1⟩ := trodAll_cons r0
  obtain ⟨rfl, rfl, rfl⟩ := trodAll_nil r1
  obtain rfl : args = #[v0, v1] := by cases args; simp_all
  obtain ⟨rfl, rfl⟩ := trodVars_none hV
  obtain ⟨a0, len0, cap0, rfl⟩ := okWide_slice Try.underlying22 (hval 0 22 v0 rfl rfl)
  have k0 := h0
  have lt0 : ∀ x ∈ p0, x.block < W.heap.size := by obtain ⟨m, hm⟩ := k0; exact DataW.trod_lt m _ _ _ hm
  obtain ⟨z0, w0⟩ : ∃ zs, IsRow .u64 W a0 len0 cap0 zs := by
    obtain ⟨fuel, hf⟩ := h0
    rcases open_ints Try.underlying22 Try.underlying23 (by kernel_rfl) hf with ⟨hcs, _⟩ | ⟨x, l, c, zs, hcs, _, hl, hm, hz, _, hcell, hwz⟩
    · simp [Value.cells] at hcs
      obtain ⟨rfl, rfl, rfl⟩ := hcs
      exact ⟨[], .inl ⟨rfl, rfl, rfl, rfl⟩⟩
    · simp [Value.cells] at hcs
      obtain ⟨rfl, rfl, rfl⟩ := hcs
      exact ⟨zs, .inr ⟨_, rfl, hl, hm, by simpa using hz, hcell, hwz⟩⟩
  obtain ⟨a1, rfl, rfl, rfl, w1⟩ := open_int Try.underlying23 (hval 1 23 v1 rfl rfl) h1
  clear hA0 hval0
  refine (walk a0 len0 cap0 z0 a1 W w0 w1).mono fun e W' ⟨he, bel⟩ => ?_
  subst he
  exact ⟨_, rfl, _, _, _, [], _, [], hW', trodAll_mk1 (shut_bool Try.underlying4 _), (trodAll_cons_mk (Below.trod laidOut (by kernel_rfl) (of_decide_eq_true (by kernel_rfl)) k0 bel lt0) (trodAll_cons_mk (shut_int Try.underlying23 w1) trodAll_mk0)), rfl, bel.frame _, fun h => by cases h⟩

theorem over : Rows.timerExpiryOrderRow.holds Try.pinned (OpenSpec.ofChange Rows.timerExpiryOrderSpec) :=
  OpenClaim.holds_of_wide 4 Try.f4 rfl rfl rfl rfl rfl rfl rfl ⟨rfl, rfl, rfl, rfl, rfl⟩ rfl rfl rfl rfl rfl (by kernel_rfl) Try.func4 (by kernel_rfl)
    (of_decide_eq_true (by kernel_rfl)) (by unfold Func.isWrapper; first | (rw [if_pos (by decide +kernel)]; kernel_rfl) | (rw [if_neg (by decide +kernel)]; exact ⟨rfl, rfl⟩))
    (fun os started H enc _ => lifted os started H enc)

end Go.Proofs.Ytbgddldkpjeieaa.timerExpiryOrder

namespace Go.Proofs.Ytbgddldkpjeieaa
/-- The statement. -/
theorem timerExpiryOrder_holds : Rows.TimerExpiryOrderSaid := timerExpiryOrder.over
#print axioms timerExpiryOrder_holds
end Go.Proofs.Ytbgddldkpjeieaa
