/-
  The law RingIsFIFO returns true for every four numbers, and changes nothing that was in memory before.
  Conditions: none beyond the row's own.
-/
import Derived.Test.YtmgpeonnmfidhaaSeq
import Derived.WalkKit
import Derived.ProofKit
import Derived.OpenShut
import Derived.ShutString
import Derived.ChangeOld
import Derived.Below
namespace Go.Proofs.Ytmgpeonnmfidhaa.ringIsFIFO
open Go.ChangeShapes Go.WideShapes Go.ChangeAt Go.RowKit
open Go.ChangeMaps (open_string shut_string)
set_option linter.unusedVariables false      -- a walk need not use every 'w<i>' (that an integer argument fits its kind)

theorem own : ownKnob Try.prog.godebug = none := by kernel_rfl

set_option maxHeartbeats 800000 in
theorem walk (a0 : Int) (a1 : Int) (a2 : Int) (a3 : Int) (w0 : (Lit.int .i64 a0).wf = true) (w1 : (Lit.int .i64 a1).wf = true) (w2 : (Lit.int .i64 a2).wf = true) (w3 : (Lit.int .i64 a3).wf = true) (w : World) :
    Calls Try.prog 5 #[.int .i64 a0, .int .i64 a1, .int .i64 a2, .int .i64 a3] w fun e w' => e = .returned (.bool true) ∧ Below w.heap.size w w' := by
  have b0 := bounds_i64 w0
  have b1 := bounds_i64 w1
  have b2 := bounds_i64 w2
  have b3 := bounds_i64 w3
  clear w0 w1 w2 w3
  obtain ⟨r0, hr0, hm0⟩ := mod_fix a0 20 20 rfl (by omega) (by omega) b0
  obtain ⟨k, hk⟩ : ∃ k : Nat, k = 1 + r0 := ⟨_, rfl⟩
  have ek : (1 : Int) + (r0 : Int) = (k : Int) := by omega
  have hk1 : 1 ≤ k := by omega
  have hk20 : k ≤ 20 := by omega
  obtain ⟨k2, hk2⟩ : ∃ k2 : Nat, k2 = k + 2 := ⟨_, rfl⟩
  have ek2 : (k : Int) + 2 = (k2 : Int) := by omega
  obtain ⟨r1, hr1, hm1⟩ := mod_fix a1 k2 k2 rfl (by omega) (by omega) b1
  obtain ⟨p, hp⟩ : ∃ p : Nat, p = 1 + r1 := ⟨_, rfl⟩
  have ep : (1 : Int) + (r1 : Int) = (p : Int) := by omega
  have hp1 : 1 ≤ p := by omega
  have hp22 : p ≤ 22 := by omega
  obtain ⟨r2, hr2, hm2⟩ := mod_fix a2 k2 k2 rfl (by omega) (by omega) b2
  obtain ⟨q, hq⟩ : ∃ q : Nat, q = 1 + r2 := ⟨_, rfl⟩
  have eq : (1 : Int) + (r2 : Int) = (q : Int) := by omega
  have hq22 : q ≤ 22 := by omega
  obtain ⟨T, hT, hm3⟩ := mod_fix a3 150 150 rfl (by omega) (by omega) b3
  have HM := Lib.hid (And.intro hm0 (And.intro hm1 (And.intro hm2 hm3)))
  have hr0' : r0 ≤ 20 := by omega
  have hr1' : r1 ≤ 22 := by omega
  have hr2' : r2 ≤ 22 := by omega
  clear hm0 hm1 hm2 hm3 b0 b1 b2 b3 hk hk2 hp hq hr0 hr1 hr2
  go_enter Try.func5, Try.ntmps5
  go_wp2_with fail
  refine (HM.out.1 _).mono ?_
  rintro e wm ⟨rfl, hwm⟩
  have hwm' := hwm.symm
  subst hwm'
  clear hwm
  go_wp2_with fail
  refine (new_ok (fun j => w.heap.size ≤ j) k _ (by omega) (by omega) (fun j hj => hj)).mono ?_
  rintro e w1 ⟨hb, rfl, hhb, hA1, hf1⟩
  have H1 : Hid (Uno w w1 No hb (seqI 0 0) k) := (uno_born hA1 (fun j hj => hj) hf1 (Fr.refl _ _)).less fun j hj => hj.elim
  clear hA1 hf1 hhb
  go_wp2_with fail
  go_loopg [12, 13, 14] (T + 1) (fun g s12 s13 s14 wr => ∃ (nx fi c i : Nat), s12 = .int .i64 nx ∧ s13 = .int .i64 fi ∧ s14 = .int .i64 i ∧ i ≤ T ∧ T - i < g ∧ nx ≤ i * 22 ∧ Hid (Uno w wr No hb (seqI fi c) k ∧ nx = fi + c))
  case atStart => exact ⟨0, 0, 0, 0, rfl, rfl, rfl, by omega, by omega, by omega, H1.out, rfl⟩
  case round =>
    obtain ⟨nx, fi, c, i, rfl, rfl, rfl, hiT, hig, hnx, HR⟩ := hrel
    clear H1
    go_wp2_with fail
    refine (HM.out.2.2.2 _).mono ?_
    rintro e wm ⟨rfl, hwm⟩
    have hwm' := hwm.symm
    subst hwm'
    clear hwm
    by_cases hi : i < T
    · have p1 : (i : Int) < (T : Int) := by omega
      have hnx4 : nx ≤ 3300 := by omega
      have HN : Hid (nx = fi + c) := HR.out.2
      have hck : c ≤ k := by have := HR.out.1.len.1; rw [seq_length] at this; exact this
      go_wp2_with fail
      go_loopg [15, 16] (p + 1) (fun g s15 s16 wq => ∃ (j cp : Nat) (la : Option Addr), s15 = .slice la j cp ∧ s16 = .int .i64 j ∧ j ≤ p ∧ p - j < g ∧ Hid (Uno w wq (Blk la) hb (seqI fi c) k ∧ wq.ownsRow 0 3 1 (.slice la j cp) j (ints (seqI nx j))))
      case atStart => exact ⟨0, 0, none, rfl, rfl, by omega, by omega, HR.out.1.less (fun j hj => by obtain ⟨_, h, _⟩ := hj; cases h), World.ownsRow_nil _ _ _ _⟩
      case round =>
        obtain ⟨j, cp, la, rfl, rfl, hjp, hjg, HQ⟩ := hrel
        clear HR
        go_wp2_with fail
        refine (HM.out.2.1 _).mono ?_
        rintro e wm ⟨rfl, hwm⟩
        have hwm' := hwm.symm
        subst hwm'
        clear hwm
        by_cases hj : j < p
        · have p2 : (j : Int) < (p : Int) := by omega
          obtain ⟨x, hx⟩ : ∃ x : Nat, x = nx + j := ⟨_, rfl⟩
          have ex : (nx : Int) + (j : Int) = (x : Int) := by omega
          have hx4 : x ≤ 4000 := by omega
          have HX := Lib.hid hx
          clear hx
          go_wp2_with (first | (at_builtin; refine wpList_append_ints rfl (.tmp 47) (.tmp 51) rfl 0 _ j (seqI nx j) rfl (HQ.out.2.alloc _) _ 1 1 [(x : Int)] rfl rfl (at_one wr (x : Int)) (fun h => by cases h) (by unfold maxLen; omega) (by omega) (Nat.zero_le _) ?_; intro a2 cp2 w2 hown2 hgr2 hat2; have H2 := Lib.hid (And.intro hown2 (And.intro hgr2 hat2)); clear hown2 hgr2 hat2) | fail)
          go_roundg (p - j)
          case measure => exact hjg
          case rel =>
            obtain ⟨hown2, hgr2, hat2⟩ := H2.out
            refine ⟨j + 1, cp2, a2, rfl, by go_num, by omega, by omega, ?_, ?_⟩
            · refine HQ.out.1.turn (((Fr.alloc (Blk la) wr _)).trans (Fr.grown hgr2 fun b hb => blk_own.1 hb)) (fun b hb => hb) fun b hb => ?_
              have h1 : (Value.slice a2 (j + 1) cp2).ownBlock = some b := blk_own.2 hb
              rcases hat2 with h2 | h2
              · rw [h1] at h2
                exact .inl (blk_own.1 h2.symm)
              · have h3 := hown2.lt b h1
                rw [h1] at h2
                simp at h2
                exact .inr ⟨by omega, h3.2⟩
            · have e1 : seqI nx j ++ [(x : Int)] = seqI nx (j + 1) := by
                rw [← seq_append, HX.out]
                simp [seqI]
              rw [e1] at hown2
              exact hown2
        · obtain rfl : j = p := by omega
          have p2 : ¬ ((j : Int) < (j : Int)) := by omega
          obtain ⟨m, hm⟩ : ∃ m, min j (k - c) = m := ⟨_, rfl⟩
          obtain ⟨ny, hny⟩ : ∃ ny : Nat, ny = nx + m := ⟨_, rfl⟩
          have eny : (nx : Int) + (m : Int) = (ny : Int) := by omega
          obtain ⟨d, hd⟩ : ∃ d : Nat, d = c + m := ⟨_, rfl⟩
          obtain ⟨m2, hm2⟩ : ∃ m2 : Nat, m2 = min q d := ⟨_, rfl⟩
          obtain ⟨c2, hc2⟩ : ∃ c2 : Nat, c2 = d - m2 := ⟨_, rfl⟩
          have hny4 : ny ≤ 4000 := by omega
          have HD := Lib.hid (And.intro hm (And.intro hny (And.intro hd (And.intro hm2 hc2))))
          have hd42 : d ≤ 42 := by omega
          clear hm hny hd hm2 hc2
          go_wp2_with fail
          obtain ⟨S1, hT1, hS1, hZ1, -, hB1⟩ := HQ.out.1.t
          refine (push_any S1 hb (seqI fi c) (seqI nx j) k c j cp m la _ hT1 hS1 (seq_length _ _) (At.own HQ.out.2) (seq_length _ _) (row_cap HQ.out.2).1 (row_cap HQ.out.2).2.1 (row_cap HQ.out.2).2.2 (fun _ ad h => hZ1 _ ⟨ad, h, rfl⟩) HD.out.1).mono ?_
          rintro e w3 ⟨rfl, hA3, hf3⟩
          rw [seq_take _ _ _ (by have := HD.out.1; omega), HN.out, seq_append, ← HD.out.2.2.1] at hA3
          have H3 : Hid (Uno w w3 No hb (seqI fi d) k) := (hB1 _ _ hA3 hf3).1.less fun j hj => hj.elim
          clear hT1 hS1 hZ1 hB1 hA3 hf3 HQ
          go_wp2_with fail
          refine (HM.out.2.2.1 _).mono ?_
          rintro e wm ⟨rfl, hwm⟩
          have hwm' := hwm.symm
          subst hwm'
          clear hwm
          go_wp2_with fail
          obtain ⟨S1, hT1, hB1⟩ := H3.out.q
          refine (pop_any S1 hb (seqI fi d) k d m2 q _ hT1 (seq_length _ _) (by have := HD.out.2.2.2.1; omega)).mono ?_
          rintro e w4 ⟨pa, pc, rfl, hown, hA4, hf4⟩
          rw [seq_take _ _ _ (by have := HD.out.2.2.2.1; omega)] at hown
          rw [seq_drop, ← HD.out.2.2.2.2] at hA4
          have H4 : Hid (Uno w w4 No hb (seqI (fi + m2) c2) k ∧ At w4 pa (seqI fi m2)) := ⟨(hB1 _ _ hA4 hf4).1.less fun j hj => hj.elim, At.own hown⟩
          clear hT1 hB1 hA4 hf4 hown H3
          have hm22 : m2 ≤ 42 := by have := HD.out.2.2.2.1; omega
          go_wp2_with fail
          go_loopg [13, 17] (m2 + 1) (fun g s13 s17 wq => ∃ y t : Nat, s13 = .int .i64 y ∧ s17 = .int .i64 t ∧ t ≤ m2 ∧ m2 - t < g ∧ Hid (wq = w4 ∧ y = fi + t))
          case atStart => exact ⟨fi, 0, rfl, rfl, by omega, by omega, rfl, rfl⟩
          case round =>
            obtain ⟨y, t, rfl, rfl, htm, htg, HY⟩ := hrel
            have hw4 := HY.out.1
            subst hw4
            have hfy : y ≤ 5000 := by have := HY.out.2; have := HN.out; omega
            by_cases ht : t < m2
            · have p3 : (t : Int) < (m2 : Int) := by omega
              have p4 : (0 : Int) ≤ (t : Int) := by omega
              obtain ⟨b, off, hpa, hcell⟩ := H4.out.2 t _ (seq_get _ _ _ ht)
              subst hpa
              rw [← HY.out.2] at hcell
              go_wp2_with fail
              go_roundg (m2 - t)
              case measure => exact htg
              case rel => exact ⟨y + 1, t + 1, by go_num, by go_num, by omega, by omega, rfl, by have := HY.out.2; omega⟩
            · obtain rfl : t = m2 := by omega
              have p3 : ¬ ((t : Int) < (t : Int)) := by omega
              have e5 : (ny : Int) - (y : Int) = (c2 : Int) := by
                have h1 := HD.out
                have h2 := HN.out
                have h3 := HY.out.2
                omega
              obtain ⟨S1, hT1⟩ := H4.out.1.at_
              have HT := Lib.hid hT1
              clear hT1
              go_wp2_with (go_at_call 18; refine (len_any S1 hb _ k _ HT.out).mono ?_; rintro e w5 ⟨rfl, rfl⟩; rw [seq_length])
              go_roundg (T - i)
              case measure => exact hig
              case rel =>
                refine ⟨ny, y, c2, i + 1, rfl, rfl, by go_num, by omega, by omega, ?_, ?_, ?_⟩
                · have := HD.out; omega
                · have h3 := HY.out.2
                  rw [h3]
                  exact H4.out.1
                · omega
    · obtain rfl : i = T := by omega
      have p1 : ¬ ((i : Int) < (i : Int)) := by omega
      have hck : c ≤ k := by have := HR.out.1.len.1; rw [seq_length] at this; exact this
      have e5 : (nx : Int) - (fi : Int) = (c : Int) := by have := HR.out.2; omega
      have p5 : (c : Int) ≤ (k : Int) := by omega
      have hnx4 : nx ≤ 3300 := by omega
      have hfi4 : fi ≤ 3300 := by have := HR.out.2; omega
      go_wp2_with fail
      refine (awake_any _).mono ?_
      rintro e w5 ⟨rfl, hf5⟩
      have H5 := Lib.hid (HR.out.1.frNo hf5)
      clear hf5
      go_wp2_with fail
      go_ret
      exact ⟨rfl, H5.out.fr.below (fun j hj => hj) (Nat.le_refl _)⟩

set_option maxRecDepth 100000 in
theorem lifted (os : Os) (started : os.Started) (H : Type) (enc : TypeId × Value → H) :
    ReturnsInHanded {} Try.checked os 5 .any (Rows.ringIsFIFOSpec.pre6 enc Try.prog Try.f5 Rows.ringIsFIFORow.domain false) (Rows.ringIsFIFOSpec.post enc Try.prog Try.f5 false true false false) := by
  refine returnsInHanded_of_change (C := Try.checked) own started (by kernel_rfl) Try.func5
    (ChangeSpec.witness6 (enc := enc) (C := Try.checked) false ⟨#[], #[.int .i64 0, .int .i64 0, .int .i64 0, .int .i64 0], []⟩ 8 (by kernel_rfl) (by kernel_rfl) (by kernel_rfl) (by kernel_rfl)) ?_
  intro W base args ds gs before hval0 hW hcnd _
  have hval : ∀ (j : Nat) t v, Try.f5.params[j]? = some t → args[j]? = some v → Value.okWide Try.prog W .any base t v := hval0
  have hW' := hW
  obtain ⟨p, q, hA0, hV, rfl, hfz, hnd⟩ := hW
  have hA : DataW.TrodAll enc Try.prog W 0 (fun _ => true) true Try.f5.params.toList args.toList ds p := hA0
  rw [Try.params5] at hA hval
  obtain ⟨v0, vs0, d0, ds0, p0, q0, hargs, rfl, rfl, h0, r0⟩ := trodAll_cons hA
  obtain ⟨v1, vs1, d1, ds1, p1, q1, rfl, rfl, rfl, h1, r1⟩ := trodAll_cons r0
  obtain ⟨v2, vs2, d2, ds2, p2, q2, rfl, rfl, rfl, h2, r2⟩ := trodAll_cons r1
  obtain ⟨v3, vs3, d3, ds3, p3, q3, rfl, rfl, rfl, h3, r3⟩ := trodAll_cons r2
  obtain ⟨rfl, rfl, rfl⟩ := trodAll_nil r3
  obtain rfl : args = #[v0, v1, v2, v3] := by cases args; simp_all
  obtain ⟨rfl, rfl⟩ := trodVars_none hV
  obtain ⟨a0, rfl, rfl, rfl, w0⟩ := open_int Try.underlying3 (hval 0 3 v0 rfl rfl) h0
  obtain ⟨a1, rfl, rfl, rfl, w1⟩ := open_int Try.underlying3 (hval 1 3 v1 rfl rfl) h1
  obtain ⟨a2, rfl, rfl, rfl, w2⟩ := open_int Try.underlying3 (hval 2 3 v2 rfl rfl) h2
  obtain ⟨a3, rfl, rfl, rfl, w3⟩ := open_int Try.underlying3 (hval 3 3 v3 rfl rfl) h3
  clear hA0 hval0
  refine (walk a0 a1 a2 a3 w0 w1 w2 w3 W).mono fun e W' ⟨he, bel⟩ => ?_
  subst he
  exact ⟨_, rfl, _, _, _, [], _, [], hW', trodAll_mk1 (shut_bool Try.underlying4 _), (trodAll_cons_mk (shut_int Try.underlying3 w0) (trodAll_cons_mk (shut_int Try.underlying3 w1) (trodAll_cons_mk (shut_int Try.underlying3 w2) (trodAll_cons_mk (shut_int Try.underlying3 w3) trodAll_mk0)))), rfl, bel.frame _, fun h => by cases h⟩

theorem over : Rows.ringIsFIFORow.holds Try.pinned (OpenSpec.ofChange Rows.ringIsFIFOSpec) :=
  OpenClaim.holds_of_wide 5 Try.f5 rfl rfl rfl rfl rfl rfl rfl ⟨rfl, rfl, rfl, rfl, rfl⟩ rfl rfl rfl rfl rfl (by kernel_rfl) Try.func5 (by kernel_rfl)
    (of_decide_eq_true (by kernel_rfl)) (by unfold Func.isWrapper; first | (rw [if_pos (by decide +kernel)]; kernel_rfl) | (rw [if_neg (by decide +kernel)]; exact ⟨rfl, rfl⟩))
    (fun os started H enc _ => lifted os started H enc)

end Go.Proofs.Ytmgpeonnmfidhaa.ringIsFIFO

namespace Go.Proofs.Ytmgpeonnmfidhaa
/-- The statement. -/
theorem ringIsFIFO_holds : Rows.RingIsFIFOSaid := ringIsFIFO.over
#print axioms ringIsFIFO_holds
end Go.Proofs.Ytmgpeonnmfidhaa
