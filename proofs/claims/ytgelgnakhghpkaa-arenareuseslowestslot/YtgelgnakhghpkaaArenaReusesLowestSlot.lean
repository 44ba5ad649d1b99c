/-
  The law ArenaReusesLowestSlot returns true for every three numbers, and changes nothing that was in memory before.
  Conditions: none beyond the row's own.
-/
import Derived.Test.YtgelgnakhghpkaaLow
import Derived.WalkKit
import Derived.ProofKit
import Derived.OpenShut
import Derived.ShutString
import Derived.ChangeOld
import Derived.Below
namespace Go.Proofs.Ytgelgnakhghpkaa.arenaReusesLowestSlot
open Go.ChangeShapes Go.WideShapes Go.ChangeAt Go.RowKit
open Go.ChangeMaps (open_string shut_string)
set_option linter.unusedVariables false      -- a walk need not use every 'w<i>' (that an integer argument fits its kind)

theorem own : ownKnob Try.prog.godebug = none := by kernel_rfl

set_option maxHeartbeats 800000 in
theorem walk (a0 : Int) (a1 : Int) (a2 : Int) (w0 : (Lit.int .i64 a0).wf = true) (w1 : (Lit.int .i64 a1).wf = true) (w2 : (Lit.int .i64 a2).wf = true) (w : World) :
    Calls Try.prog 6 #[.int .i64 a0, .int .i64 a1, .int .i64 a2] w fun e w' => e = .returned (.bool true) ∧ Below w.heap.size w w' := by
  have b0 := bounds_i64 w0
  have b1 := bounds_i64 w1
  have b2 := bounds_i64 w2
  clear w0 w1 w2
  go_enter Try.func6, Try.ntmps6
  go_wp2_with fail
  refine (mod_at a0 40 40 _ rfl (by omega) (by omega) b0).mono ?_
  rintro e wm ⟨r, hr, -, rfl, hwm⟩
  have hwm' := hwm.symm
  subst hwm'
  clear hwm
  obtain ⟨k, hk⟩ : ∃ k : Nat, k = 2 + r := ⟨_, rfl⟩
  have hk' : (2 : Int) + (r : Int) = (k : Int) := by omega
  have hk2 : 2 ≤ k ∧ k ≤ 41 := by omega
  clear hk hr
  go_wp2_with fail
  refine (I.new_ok (fun j => w.heap.size ≤ j) k _ (by omega) (by omega) (fun j hj => hj)).mono ?_
  rintro e w1 ⟨hb, rfl, hhb, hA1, hf1⟩
  have H1 : Hid (UI w w1 (fun j => (Value.slice none 0 0).ownBlock = some j) hb (filled 0) k (0 : Nat)) := (uno_born hA1 (fun j hj => hj) hf1 (Fr.refl _ _)).less fun j hj => by simp [Value.ownBlock] at hj
  clear hA1 hf1
  go_wp2_with fail
  go_loopg [10, 11] (k + 1) (fun g s10 s11 wr => ∃ (i cp : Nat) (la : Option Addr), s10 = .slice la i cp ∧ s11 = .int .i64 i ∧ i ≤ k ∧ k - i < g ∧ Hid (UI w wr (fun j => (Value.slice la i cp).ownBlock = some j) hb (filled i) k (i : Nat) ∧ wr.ownsRow 0 38 2 (.slice la i cp) i (flatH (firsts i))))
  case atStart => exact ⟨0, 0, none, rfl, by go_num, by omega, by omega, H1.out, World.ownsRow_nil _ _ _ _⟩
  case round =>
    obtain ⟨i, cp, la, rfl, rfl, hik, hig, HR⟩ := hrel
    clear H1
    by_cases hi : i < k
    · have p1 : (i : Int) < (k : Int) := by omega
      obtain ⟨S1, hT1, hS1, hB1⟩ := HR.out.1.t
      have HT := Lib.hid (And.intro hT1 (And.intro hS1 hB1))
      clear hT1 hS1 hB1
      go_wp2_with fail
      refine (I.alloc_ok S1 hb _ k _ (i : Int) _ HT.out.1 HT.out.2.1 (by rw [filled_cnt]; exact hi) (by omega)).mono ?_
      rintro e w3 ⟨i', gn, A', rfl, hput, hA3, hf3⟩
      obtain ⟨hi', rfl, rfl⟩ := put_end hput (by rw [filled_cnt, filled_length])
      rw [filled_length] at hi'
      have hi'' := hi'.symm
      subst hi''
      clear hi'
      obtain ⟨h3, hz3⟩ := HT.out.2.2 _ _ _ hA3 hf3
      rw [← filled_succ] at h3
      have H3 : Hid (UI w w3 (fun j => (Value.slice la i cp).ownBlock = some j) hb (filled (i + 1)) k ((i + 1 : Nat) : Int) ∧ w3.ownsRow 0 38 2 (.slice la i cp) i (flatH (firsts i))) := ⟨by push_cast; exact h3, row_keep HR.out.2 hz3⟩
      have HU3 : Hid (((w3.alloc (.cells #[.int .i64 (i : Int), .int .i64 1] 38)).alloc (.cells #[.int .i64 (i : Int), .int .i64 1] 38)).heap[w3.heap.size + 1]? = some (.cells #[.int .i64 (i : Int), .int .i64 1] 38 (0, 0))) := heap_alloc2_new w3 _ _
      clear hput hA3 hf3 h3 hz3 HT HR
      obtain ⟨i0, hi0, hz0, hz1, hz2⟩ := info_parts infoH
      go_wp2_with (first | (at_builtin; refine wpList_append_lies _ rfl (.tmp 55) (.tmp 57) 28 rfl 0 38 i0 _ 2 16 Try.underlying28 hi0 hz0 hz1 hz2 rfl (by omega) (.slice la i cp) i _ rfl ((H3.out.2.alloc _).alloc _) ⟨w3.heap.size + 1, 0, none⟩ 1 1 [.int .i64 (i : Int), .int .i64 1] rfl rfl (World.news_of_block (cs := #[.int .i64 (i : Int), .int .i64 1]) (t := 38) (fr := (0, 0)) HU3.out) (one_pair _ _) (by omega) (by unfold maxLen; omega) (by omega) (by simp) (w3.heap.size + 2) (by simp) ?_; intro g2 cp2 w5 hown hgrow hat hlt; have HB := Lib.hid (And.intro hown (And.intro hgrow (And.intro hat hlt))); clear hown hgrow hat hlt) | fail)
      go_roundg (k - i)
      case measure => exact hig
      case rel =>
        obtain ⟨hown, hgrow, hat, hlt⟩ := HB.out
        refine ⟨i + 1, cp2, _, rfl, by go_num, by omega, by omega, ?_, ?_⟩
        · refine H3.out.1.turn (((Fr.alloc _ w3 _).trans (Fr.alloc _ _ _)).trans (Fr.grown hgrow fun j hj => hj)) (fun j hj => hj) fun j hj => ?_
          simp [Value.ownBlock] at hj
          subst hj
          rcases hat with h1 | h1
          · exact .inl h1
          · exact .inr ⟨by omega, hlt⟩
        · rw [firsts_succ, flatH_append]; exact hown
    · obtain rfl : i = k := by omega
      have p1 : ¬ ((i : Int) < (i : Int)) := by omega
      obtain ⟨S1, hT1⟩ := HR.out.1.at_
      have HT := Lib.hid hT1
      clear hT1
      go_wp2_with fail
      refine (I.alloc_full S1 hb _ i _ 0 _ HT.out (filled_cnt i)).mono ?_
      rintro e w3 ⟨rfl, hf3⟩
      have H3 : Hid (UI w (w3.alloc (.cells #[.int .i64 0, .int .i64 0] 38)) (fun j => (Value.slice la i cp).ownBlock = some j) hb (filled i) i (i : Nat) ∧ (w3.alloc (.cells #[.int .i64 0, .int .i64 0] 38)).ownsRow 0 38 2 (.slice la i cp) i (flatH (firsts i))) :=
        ⟨(HR.out.1.frNo hf3).frNo (Fr.alloc No w3 _), (row_keep HR.out.2 (fun j hj => hf3.block j (HR.out.1.zlt hj) (fun h => h))).alloc _⟩
      clear hf3 HT HR
      go_wp2_with fail
      revert H3
      generalize w3.alloc (.cells #[.int .i64 0, .int .i64 0] 38) = w4
      intro H3
      refine (mod_at a1 i i _ rfl (by omega) (by omega) b1).mono ?_
      rintro e wm ⟨f, hf, -, rfl, hwm⟩
      have hwm' := hwm.symm
      subst hwm'
      clear hwm
      go_wp2_with fail
      refine (mod_at a2 i i _ rfl (by omega) (by omega) b2).mono ?_
      rintro e wm ⟨g0, hg0, -, rfl, hwm⟩
      have hwm' := hwm.symm
      subst hwm'
      clear hwm
      obtain ⟨lb, hlb, x0, x1⟩ := rowH_cell H3.out.2 (firsts_get hf)
      subst hlb
      have q0 : (0 : Int) ≤ (f : Int) := by omega
      have q1 : (f : Int) < (i : Int) := by omega
      obtain ⟨S1, hT1, hS1, hB1⟩ := H3.out.1.t
      have HT := Lib.hid (And.intro hT1 (And.intro hS1 hB1))
      clear hT1 hS1 hB1
      by_cases hfg : f = g0
      · subst hfg
        obtain ⟨g, hg⟩ : ∃ g : Nat, g = (f + 1) % i := ⟨_, rfl⟩
        have hgi : g < i := by rw [hg]; exact Nat.mod_lt _ (by omega)
        have hne : f ≠ g := by
          intro e
          rw [e] at hg
          by_cases h1 : g + 1 < i
          · rw [Nat.mod_eq_of_lt h1] at hg; omega
          · obtain rfl : i = g + 1 := by omega
            rw [Nat.mod_self] at hg; omega
        have hmod : ((f : Int) + 1).tmod (i : Int) = (g : Int) := by
          rw [Int.tmod_eq_emod_of_nonneg (by omega), hg]
          push_cast
          rfl
        have hi0' : ¬ ((i : Int) = 0) := by omega
        have q2 : (0 : Int) ≤ (g : Int) := by omega
        have q3 : (g : Int) < (i : Int) := by omega
        clear hg
        go_wp2_with fail
        refine (I.free_hit S1 hb _ i _ f 1 f (f : Int) _ HT.out.1 ⟨rfl, filled_get hf, rfl, rfl⟩).mono ?_
        rintro e w5 ⟨rfl, hA5, hf5⟩
        obtain ⟨h5, hz5⟩ := HT.out.2.2 _ _ _ hA5 hf5
        obtain ⟨lb', hlb', y0, y1⟩ := rowH_cell (row_keep H3.out.2 hz5) (firsts_get hgi)
        cases hlb'
        have H5 := Lib.hid h5
        clear hA5 hf5 h5 hz5 HT H3 x0 x1
        go_wp2_with fail
        obtain ⟨S2, hT2, hS2, hB2⟩ := H5.out.t
        refine (I.free_hit S2 hb _ i _ g 1 g (g : Int) _ hT2 ⟨rfl, one_live hne hgi, rfl, rfl⟩).mono ?_
        rintro e w6 ⟨rfl, hA6, hf6⟩
        have H6 : Hid (UI w w6 (fun j => (Value.slice (some ⟨lb, 0, none⟩) i cp).ownBlock = some j) hb (two i f g) i (i : Nat)) := (hB2 _ _ _ hA6 hf6).1
        clear hT2 hS2 hB2 hA6 hf6 H5 y0 y1
        go_wp2_with fail
        obtain ⟨S3, hT3, hS3, hB3⟩ := H6.out.t
        refine (I.alloc_ok S3 hb _ i _ 7 _ hT3 hS3 (by have := two_cnt hne hf hgi; omega) (by omega)).mono ?_
        rintro e w7 ⟨i7, gn7, A7, rfl, hput7, hA7, hf7⟩
        obtain ⟨rfl, rfl, rfl⟩ := low_first hf hgi hput7
        have hc7 := hput7.cnt
        obtain ⟨lo, hlo⟩ : ∃ lo, lo = min f g := ⟨_, rfl⟩
        have hmin : min (f : Int) (g : Int) = (lo : Int) := by omega
        rw [← hlo]
        clear hlo
        have h7 := (hB3 _ _ _ hA7 hf7).1
        have H7 := Lib.hid ((h7.box (.cells #[.int .i64 (lo : Int), .int .i64 2] 38)).less (Z' := fun j => j = w7.heap.size) fun j hj => .inr hj)
        have HX7 : Hid ((w7.alloc (.cells #[.int .i64 (lo : Int), .int .i64 2] 38)).heap[w7.heap.size]? = some (.cells #[.int .i64 (lo : Int), .int .i64 2] 38 (0, 0))) := heap_alloc_new w7 _
        have HC7 := Lib.hid hc7
        clear hT3 hS3 hB3 hA7 hf7 hput7 h7 hc7 H6
        go_wp2_with fail
        obtain ⟨xb, hxb⟩ : ∃ xb, w7.heap.size = xb := ⟨_, rfl⟩
        rw [hxb] at H7 HX7 ⊢
        clear hxb
        revert H7; revert HX7
        generalize w7.alloc (.cells #[.int .i64 (lo : Int), .int .i64 2] 38) = w8
        intro HX7 H7
        obtain ⟨S4, hT4, hS4, hB4⟩ := H7.out.t
        refine (I.alloc_ok S4 hb _ i _ 8 _ hT4 hS4 (by have := two_cnt hne hf hgi; have := HC7.out; omega) (by omega)).mono ?_
        rintro e w9 ⟨i9, gn9, A9, rfl, hput9, hA9, hf9⟩
        obtain ⟨rfl, rfl⟩ := low_second hne hf hgi hput9
        have hc9 : ((cnt A9 : Nat) : Int) = (i : Int) := by have h1 := hput9.cnt; have h2 := HC7.out; have h3 := two_cnt hne hf hgi; omega
        obtain ⟨hi, hhi⟩ : ∃ hi, hi = max f g := ⟨_, rfl⟩
        have hmax : max (f : Int) (g : Int) = (hi : Int) := by omega
        rw [← hhi]
        clear hhi
        obtain ⟨h9, hz9⟩ := hB4 _ _ _ hA9 hf9
        have hx9 := (hz9 xb rfl).trans HX7.out
        have H9 := Lib.hid (h9.box (.cells #[.int .i64 (hi : Int), .int .i64 2] 38))
        have HX9 : Hid ((w9.alloc (.cells #[.int .i64 (hi : Int), .int .i64 2] 38)).heap[xb]? = some (.cells #[.int .i64 (lo : Int), .int .i64 2] 38 (0, 0))) := (Below.heap_alloc _ _ _ (Array.getElem?_eq_some_iff.1 hx9).1).trans hx9
        have HY9 : Hid ((w9.alloc (.cells #[.int .i64 (hi : Int), .int .i64 2] 38)).heap[w9.heap.size]? = some (.cells #[.int .i64 (hi : Int), .int .i64 2] 38 (0, 0))) := heap_alloc_new w9 _
        have HC9 := Lib.hid hc9
        clear hT4 hS4 hB4 hA9 hf9 hput9 h9 hz9 hx9 hc9 H7 HX7
        go_wp2_with fail
        obtain ⟨yb, hyb⟩ : ∃ yb, w9.heap.size = yb := ⟨_, rfl⟩
        rw [hyb] at H9 HY9 ⊢
        clear hyb
        revert H9; revert HX9; revert HY9
        generalize w9.alloc (.cells #[.int .i64 (hi : Int), .int .i64 2] 38) = w10
        intro HY9 HX9 H9
        refine (awake_any _).mono ?_
        rintro e w11 ⟨rfl, hf11⟩
        have H11 := Lib.hid (H9.out.frNo hf11)
        obtain ⟨x0, x1⟩ := pair_cells ((hf11.block xb (H9.out.zlt (.inl rfl)) (fun h => h)).trans HX9.out)
        obtain ⟨y0, y1⟩ := pair_cells ((hf11.block yb (H9.out.zlt (.inr rfl)) (fun h => h)).trans HY9.out)
        obtain ⟨S5, hT5⟩ := H11.out.at_
        have HT5 := Lib.hid hT5
        clear hT5 hf11 H9 HX9 HY9
        go_wp2_with (go_at_call 10; refine (I.len_any S5 hb _ i _ _ HT5.out).mono ?_; rintro e w12 ⟨rfl, rfl⟩; rw [HC9.out])
        all_goals (
          go_ret
          exact ⟨rfl, H11.out.fr.below (fun j hj => hj) (Nat.le_refl _)⟩)
      · obtain ⟨g, rfl⟩ : ∃ g : Nat, g = g0 := ⟨_, rfl⟩
        have hgi : g < i := hg0
        have hne : f ≠ g := hfg
        have q2 : (0 : Int) ≤ (g : Int) := by omega
        have q3 : (g : Int) < (i : Int) := by omega
        have q4 : ((f : Int) == (g : Int)) = false := by simp; omega
        go_wp2_with fail
        refine (I.free_hit S1 hb _ i _ f 1 f (f : Int) _ HT.out.1 ⟨rfl, filled_get hf, rfl, rfl⟩).mono ?_
        rintro e w5 ⟨rfl, hA5, hf5⟩
        obtain ⟨h5, hz5⟩ := HT.out.2.2 _ _ _ hA5 hf5
        obtain ⟨lb', hlb', y0, y1⟩ := rowH_cell (row_keep H3.out.2 hz5) (firsts_get hgi)
        cases hlb'
        have H5 := Lib.hid h5
        clear hA5 hf5 h5 hz5 HT H3 x0 x1
        go_wp2_with fail
        obtain ⟨S2, hT2, hS2, hB2⟩ := H5.out.t
        refine (I.free_hit S2 hb _ i _ g 1 g (g : Int) _ hT2 ⟨rfl, one_live hne hgi, rfl, rfl⟩).mono ?_
        rintro e w6 ⟨rfl, hA6, hf6⟩
        have H6 : Hid (UI w w6 (fun j => (Value.slice (some ⟨lb, 0, none⟩) i cp).ownBlock = some j) hb (two i f g) i (i : Nat)) := (hB2 _ _ _ hA6 hf6).1
        clear hT2 hS2 hB2 hA6 hf6 H5 y0 y1
        go_wp2_with fail
        obtain ⟨S3, hT3, hS3, hB3⟩ := H6.out.t
        refine (I.alloc_ok S3 hb _ i _ 7 _ hT3 hS3 (by have := two_cnt hne hf hgi; omega) (by omega)).mono ?_
        rintro e w7 ⟨i7, gn7, A7, rfl, hput7, hA7, hf7⟩
        obtain ⟨rfl, rfl, rfl⟩ := low_first hf hgi hput7
        have hc7 := hput7.cnt
        obtain ⟨lo, hlo⟩ : ∃ lo, lo = min f g := ⟨_, rfl⟩
        have hmin : min (f : Int) (g : Int) = (lo : Int) := by omega
        rw [← hlo]
        clear hlo
        have h7 := (hB3 _ _ _ hA7 hf7).1
        have H7 := Lib.hid ((h7.box (.cells #[.int .i64 (lo : Int), .int .i64 2] 38)).less (Z' := fun j => j = w7.heap.size) fun j hj => .inr hj)
        have HX7 : Hid ((w7.alloc (.cells #[.int .i64 (lo : Int), .int .i64 2] 38)).heap[w7.heap.size]? = some (.cells #[.int .i64 (lo : Int), .int .i64 2] 38 (0, 0))) := heap_alloc_new w7 _
        have HC7 := Lib.hid hc7
        clear hT3 hS3 hB3 hA7 hf7 hput7 h7 hc7 H6
        go_wp2_with fail
        obtain ⟨xb, hxb⟩ : ∃ xb, w7.heap.size = xb := ⟨_, rfl⟩
        rw [hxb] at H7 HX7 ⊢
        clear hxb
        revert H7; revert HX7
        generalize w7.alloc (.cells #[.int .i64 (lo : Int), .int .i64 2] 38) = w8
        intro HX7 H7
        obtain ⟨S4, hT4, hS4, hB4⟩ := H7.out.t
        refine (I.alloc_ok S4 hb _ i _ 8 _ hT4 hS4 (by have := two_cnt hne hf hgi; have := HC7.out; omega) (by omega)).mono ?_
        rintro e w9 ⟨i9, gn9, A9, rfl, hput9, hA9, hf9⟩
        obtain ⟨rfl, rfl⟩ := low_second hne hf hgi hput9
        have hc9 : ((cnt A9 : Nat) : Int) = (i : Int) := by have h1 := hput9.cnt; have h2 := HC7.out; have h3 := two_cnt hne hf hgi; omega
        obtain ⟨hi, hhi⟩ : ∃ hi, hi = max f g := ⟨_, rfl⟩
        have hmax : max (f : Int) (g : Int) = (hi : Int) := by omega
        rw [← hhi]
        clear hhi
        obtain ⟨h9, hz9⟩ := hB4 _ _ _ hA9 hf9
        have hx9 := (hz9 xb rfl).trans HX7.out
        have H9 := Lib.hid (h9.box (.cells #[.int .i64 (hi : Int), .int .i64 2] 38))
        have HX9 : Hid ((w9.alloc (.cells #[.int .i64 (hi : Int), .int .i64 2] 38)).heap[xb]? = some (.cells #[.int .i64 (lo : Int), .int .i64 2] 38 (0, 0))) := (Below.heap_alloc _ _ _ (Array.getElem?_eq_some_iff.1 hx9).1).trans hx9
        have HY9 : Hid ((w9.alloc (.cells #[.int .i64 (hi : Int), .int .i64 2] 38)).heap[w9.heap.size]? = some (.cells #[.int .i64 (hi : Int), .int .i64 2] 38 (0, 0))) := heap_alloc_new w9 _
        have HC9 := Lib.hid hc9
        clear hT4 hS4 hB4 hA9 hf9 hput9 h9 hz9 hx9 hc9 H7 HX7
        go_wp2_with fail
        obtain ⟨yb, hyb⟩ : ∃ yb, w9.heap.size = yb := ⟨_, rfl⟩
        rw [hyb] at H9 HY9 ⊢
        clear hyb
        revert H9; revert HX9; revert HY9
        generalize w9.alloc (.cells #[.int .i64 (hi : Int), .int .i64 2] 38) = w10
        intro HY9 HX9 H9
        refine (awake_any _).mono ?_
        rintro e w11 ⟨rfl, hf11⟩
        have H11 := Lib.hid (H9.out.frNo hf11)
        obtain ⟨x0, x1⟩ := pair_cells ((hf11.block xb (H9.out.zlt (.inl rfl)) (fun h => h)).trans HX9.out)
        obtain ⟨y0, y1⟩ := pair_cells ((hf11.block yb (H9.out.zlt (.inr rfl)) (fun h => h)).trans HY9.out)
        obtain ⟨S5, hT5⟩ := H11.out.at_
        have HT5 := Lib.hid hT5
        clear hT5 hf11 H9 HX9 HY9
        go_wp2_with (go_at_call 10; refine (I.len_any S5 hb _ i _ _ HT5.out).mono ?_; rintro e w12 ⟨rfl, rfl⟩; rw [HC9.out])
        all_goals (
          go_ret
          exact ⟨rfl, H11.out.fr.below (fun j hj => hj) (Nat.le_refl _)⟩)

set_option maxRecDepth 100000 in
theorem lifted (os : Os) (started : os.Started) (H : Type) (enc : TypeId × Value → H) :
    ReturnsInHanded {} Try.checked os 6 .any (Rows.arenaReusesLowestSlotSpec.pre6 enc Try.prog Try.f6 Rows.arenaReusesLowestSlotRow.domain false) (Rows.arenaReusesLowestSlotSpec.post enc Try.prog Try.f6 false true false false) := by
  refine returnsInHanded_of_change (C := Try.checked) own started (by kernel_rfl) Try.func6
    (ChangeSpec.witness6 (enc := enc) (C := Try.checked) false ⟨#[], #[.int .i64 0, .int .i64 0, .int .i64 0], []⟩ 8 (by kernel_rfl) (by kernel_rfl) (by kernel_rfl) (by kernel_rfl)) ?_
  intro W base args ds gs before hval0 hW hcnd _
  have hval : ∀ (j : Nat) t v, Try.f6.params[j]? = some t → args[j]? = some v → Value.okWide Try.prog W .any base t v := hval0
  have hW' := hW
  obtain ⟨p, q, hA0, hV, rfl, hfz, hnd⟩ := hW
  have hA : DataW.TrodAll enc Try.prog W 0 (fun _ => true) true Try.f6.params.toList args.toList ds p := hA0
  rw [Try.params6] at hA hval
  obtain ⟨v0, vs0, d0, ds0, p0, q0, hargs, rfl, rfl, h0, r0⟩ := trodAll_cons hA
  obtain ⟨v1, vs1, d1, ds1, p1, q1, rfl, rfl, rfl, h1, r1⟩ := trodAll_cons r0
  obtain ⟨v2, vs2, d2, ds2, p2, q2, rfl, rfl, rfl, h2, r2⟩ := trodAll_cons r1
  obtain ⟨rfl, rfl, rfl⟩ := trodAll_nil r2
  obtain rfl : args = #[v0, v1, v2] := by cases args; simp_all
  obtain ⟨rfl, rfl⟩ := trodVars_none hV
  obtain ⟨a0, rfl, rfl, rfl, w0⟩ := open_int Try.underlying3 (hval 0 3 v0 rfl rfl) h0
  obtain ⟨a1, rfl, rfl, rfl, w1⟩ := open_int Try.underlying3 (hval 1 3 v1 rfl rfl) h1
  obtain ⟨a2, rfl, rfl, rfl, w2⟩ := open_int Try.underlying3 (hval 2 3 v2 rfl rfl) h2
  clear hA0 hval0
  refine (walk a0 a1 a2 w0 w1 w2 W).mono fun e W' ⟨he, bel⟩ => ?_
  subst he
  exact ⟨_, rfl, _, _, _, [], _, [], hW', trodAll_mk1 (shut_bool Try.underlying4 _), (trodAll_cons_mk (shut_int Try.underlying3 w0) (trodAll_cons_mk (shut_int Try.underlying3 w1) (trodAll_cons_mk (shut_int Try.underlying3 w2) trodAll_mk0))), rfl, bel.frame _, fun h => by cases h⟩

theorem over : Rows.arenaReusesLowestSlotRow.holds Try.pinned (OpenSpec.ofChange Rows.arenaReusesLowestSlotSpec) :=
  OpenClaim.holds_of_wide 6 Try.f6 rfl rfl rfl rfl rfl rfl rfl ⟨rfl, rfl, rfl, rfl, rfl⟩ rfl rfl rfl rfl rfl (by kernel_rfl) Try.func6 (by kernel_rfl)
    (of_decide_eq_true (by kernel_rfl)) (by unfold Func.isWrapper; first | (rw [if_pos (by decide +kernel)]; kernel_rfl) | (rw [if_neg (by decide +kernel)]; exact ⟨rfl, rfl⟩))
    (fun os started H enc _ => lifted os started H enc)

end Go.Proofs.Ytgelgnakhghpkaa.arenaReusesLowestSlot

namespace Go.Proofs.Ytgelgnakhghpkaa
/-- The statement. -/
theorem arenaReusesLowestSlot_holds : Rows.ArenaReusesLowestSlotSaid := arenaReusesLowestSlot.over
#print axioms arenaReusesLowestSlot_holds
end Go.Proofs.Ytgelgnakhghpkaa
