/-
  The law ArenaRejectsStaleHandles returns true for every number and every two endpoints, and changes nothing that was in memory before.
  Conditions: none beyond the row's own.
-/
import Derived.Test.YtgelgnakhghpkaaStale
import Derived.WalkKit
import Derived.ProofKit
import Derived.OpenShut
import Derived.ShutString
import Derived.ChangeOld
import Derived.Below
import Derived.Lib.SmallJoins
import Derived.Deep.RegionHeld3
namespace Go.Proofs.Ytgelgnakhghpkaa.arenaRejectsStaleHandles
open Go.ChangeShapes Go.WideShapes Go.ChangeAt Go.RowKit Go.Joins
open Go.ChangeMaps (open_string shut_string)
set_option linter.unusedVariables false

theorem own : ownKnob Try.prog.godebug = none := by kernel_rfl
theorem laidOut : laidOutB Try.prog = true := by kernel_rfl
theorem cells52 : Try.prog.cellsOf 52 = 2 := by kernel_rfl

set_option maxHeartbeats 8000000 in
set_option maxRecDepth 100000 in
theorem walk (a0 x0 x1 y0 y1 : Int) (w0 : (Lit.int .i64 a0).wf = true) (w : World) :
    Calls Try.prog 5 #[.int .i64 a0, .agg #[.int .i64 x0, .int .i64 x1], .agg #[.int .i64 y0, .int .i64 y1]] w fun e w' => e = .returned (.bool true) ∧ Below w.heap.size w w' := by
  have b0 := bounds_i64 w0
  clear w0
  obtain ⟨t, ht40, ht⟩ : ∃ t : Nat, t < 40 ∧ (t : Int) = IntKind.u64.wrap a0 % (40 : Nat) := by
    have h1 : 0 ≤ IntKind.u64.wrap a0 % ((40 : Nat) : Int) := Int.emod_nonneg _ (by omega)
    have h2 : IntKind.u64.wrap a0 % ((40 : Nat) : Int) < ((40 : Nat) : Int) := Int.emod_lt_of_pos _ (by omega)
    exact ⟨(IntKind.u64.wrap a0 % ((40 : Nat) : Int)).toNat, by omega, by omega⟩
  have HTT := Lib.hid ht
  clear ht
  have HM : Hid (∀ wz : World, Calls Try.prog 12 #[.int .i64 a0, .int .i64 40] wz fun e w' => e = .returned (.int .i64 t) ∧ w' = wz) := fun wz => by
    refine (mod_at a0 40 40 wz rfl (by omega) (by omega) b0).mono ?_
    rintro e w' ⟨r, hr, hr2, rfl, rfl⟩
    have : r = t := by have := HTT.out; omega
    rw [this]
    exact ⟨rfl, rfl⟩
  go_enter Try.func5, Try.ntmps5
  go_wp2_with fail
  obtain ⟨w2, hw2⟩ : ∃ w2, w2 = (w.alloc (.cells #[.int .i64 x0, .int .i64 x1] 52)).alloc (.cells #[.int .i64 y0, .int .i64 y1] 52) := ⟨_, rfl⟩
  obtain ⟨xb, hxb⟩ : ∃ xb, xb = w.heap.size := ⟨_, rfl⟩
  obtain ⟨yb, hyb⟩ : ∃ yb, yb = xb + 1 := ⟨_, rfl⟩
  have H2 : Hid (Fr (fun k => w.heap.size ≤ k) w w2 ∧ w2.heap[xb]? = some (.cells #[.int .i64 x0, .int .i64 x1] 52 (0, 0)) ∧ w2.heap[yb]? = some (.cells #[.int .i64 y0, .int .i64 y1] 52 (0, 0)) ∧ w.heap.size ≤ xb ∧ w.heap.size ≤ yb) := by
    rw [hw2, hyb, hxb]
    exact ⟨(Fr.alloc _ w _).trans (Fr.alloc _ _ _), (Below.heap_alloc _ _ _ (by simp)).trans (heap_alloc_new w _), heap_alloc2_new w _ _, Nat.le_refl _, by omega⟩
  rw [← hw2, ← hxb, ← hyb]
  clear hw2 hxb hyb
  refine (P.new_ok (fun k => w2.heap.size ≤ k) 1 _ (by omega) (by omega) (fun k hk => hk)).mono ?_
  rintro e w3 ⟨hb, rfl, hhb, hA3, hf3⟩
  have H3 : Hid (St w w3 xb yb hb x0 x1 y0 y1 (.slice none 0 0) 0 (gens 0) (stale 0) (0 : Nat) (fun _ => False)) := by
    obtain ⟨hF, hx, hy, hx1, hy1⟩ := H2.out
    have hxl := (Array.getElem?_eq_some_iff.1 hx).1
    have hyl := (Array.getElem?_eq_some_iff.1 hy).1
    refine ⟨(uno_born hA3 (fun k hk => hk) hf3 hF).less fun k hk => ?_, (hf3.block xb hxl (fun h => h)).trans hx, (hf3.block yb hyl (fun h => h)).trans hy, World.ownsRow_nil _ _ _ _⟩
    rcases hk with rfl | rfl | hk | hk
    · exact ⟨hx1, hxl⟩
    · exact ⟨hy1, hyl⟩
    · simp [Value.ownBlock] at hk
    · exact hk.elim
  clear hA3 hf3 hhb H2
  go_wp2_with fail
  go_loopg [9, 10] (t + 1) (fun g s9 s10 wr => ∃ (i cp : Nat) (la : Option Addr), s9 = .slice la i cp ∧ s10 = .int .i64 i ∧ i ≤ t ∧ t - i < g ∧ Hid (St w wr xb yb hb x0 x1 y0 y1 (.slice la i cp) i (gens i) (stale i) (i : Nat) (fun _ => False)))
  case atStart => exact ⟨0, 0, none, rfl, by go_num, by omega, by omega, H3.out⟩
  case round =>
    obtain ⟨i, cp, la, rfl, rfl, hit, hig, HR⟩ := hrel
    clear H3
    by_cases hi : i < t
    · have p1 : (i : Int) < (t : Int) := by omega
      go_wp2_with fail
      refine (HM.out _).mono ?_
      rintro e wm ⟨rfl, hwm⟩
      have hwm' := hwm.symm
      subst hwm'
      clear hwm
      obtain ⟨u0, u1⟩ := pair_cells HR.out.xx
      go_wp2_with fail
      obtain ⟨S1, hT1, hS1, hB1⟩ := HR.out.t
      refine (P.alloc_ok S1 hb _ 1 _ x0 x1 _ hT1 hS1 (by rw [stale_cnt]; omega) (by omega)).mono ?_
      rintro e w4 ⟨i4, gn4, A4, rfl, hput4, hA4, hf4⟩
      obtain ⟨rfl, rfl, rfl⟩ := put_stale hput4
      have H4 := Lib.hid (((hB1 _ _ _ hA4 hf4).1.box (.cells #[.int .i64 0, .int .i64 ((i : Int) + 1)] 38)).less (E' := fun k => k = w4.heap.size) fun k hk => .inr hk)
      have HX4 : Hid ((w4.alloc (.cells #[.int .i64 0, .int .i64 ((i : Int) + 1)] 38)).heap[w4.heap.size]? = some (.cells #[.int .i64 0, .int .i64 ((i : Int) + 1)] 38 (0, 0))) := heap_alloc_new w4 _
      have hne4 : yb ≠ w4.heap.size := by have := (Array.getElem?_eq_some_iff.1 (hB1 _ _ _ hA4 hf4).1.yy).1; omega
      obtain ⟨v0, v1⟩ := pair_cells H4.out.yy
      clear hT1 hS1 hB1 hA4 hf4 hput4 u0 u1 HR
      go_wp2_with fail
      obtain ⟨bx, hbx⟩ : ∃ bx, w4.heap.size = bx := ⟨_, rfl⟩
      rw [hbx] at H4 HX4 ⊢
      clear hbx hne4 v0 v1
      revert H4; revert HX4
      generalize w4.alloc (.cells #[.int .i64 0, .int .i64 ((i : Int) + 1)] 38) = w5
      intro HX4 H4
      obtain ⟨S1, hT1⟩ := H4.out.uno.at_
      refine (P.alloc_full S1 hb _ 1 _ y0 y1 _ hT1 rfl).mono ?_
      rintro e w6 ⟨rfl, hf6⟩
      have H6 := Lib.hid ((H4.out.frNo hf6).frNo (Fr.alloc No w6 (.cells #[.int .i64 0, .int .i64 0] 38)))
      have HX6 : Hid ((w6.alloc (.cells #[.int .i64 0, .int .i64 0] 38)).heap[bx]? = some (.cells #[.int .i64 0, .int .i64 ((i : Int) + 1)] 38 (0, 0))) := by
        have h1 := hf6.block bx (H4.out.elt rfl) (fun h => h)
        exact (Below.heap_alloc _ _ _ (Array.getElem?_eq_some_iff.1 (h1.trans HX4.out)).1).trans (h1.trans HX4.out)
      obtain ⟨u0, u1⟩ := pair_cells HX6.out
      clear hT1 hf6 H4 HX4
      go_wp2_with fail
      revert H6; revert HX6
      clear u0 u1
      generalize w6.alloc (.cells #[.int .i64 0, .int .i64 0] 38) = w7
      intro HX6 H6
      obtain ⟨S1, hT1, hS1, hB1⟩ := H6.out.t
      refine (P.free_hit S1 hb _ 1 _ 0 ((i : Int) + 1) 0 x0 x1 _ hT1 ⟨rfl, rfl, rfl, rfl⟩).mono ?_
      rintro e w8 ⟨rfl, hA8, hf8⟩
      rw [stale_freed] at hA8
      obtain ⟨h8, hz8⟩ := hB1 _ _ _ hA8 hf8
      have HX8 := Lib.hid ((hz8 bx rfl).trans HX6.out)
      have H8 := Lib.hid (h8.less (E' := fun _ => False) fun k hk => hk.elim)
      obtain ⟨u0, u1⟩ := pair_cells HX8.out
      have HN8 : Hid ((w8.alloc (.cells #[.int .i64 0, .int .i64 ((i : Int) + 1)] 38)).heap[w8.heap.size]? = some (.cells #[.int .i64 0, .int .i64 ((i : Int) + 1)] 38 (0, 0))) := heap_alloc_new w8 _
      clear hT1 hS1 hB1 hA8 hf8 h8 hz8 H6 HX6 HX8
      obtain ⟨i0, hi0, hz0, hz1, hz2⟩ := info_parts infoH
      go_wp2_with (first | (at_builtin; refine wpList_append_lies _ rfl (.tmp 66) (.tmp 68) 28 rfl 0 38 i0 _ 2 16 Try.underlying28 hi0 hz0 hz1 hz2 rfl (by omega) (.slice la i cp) i _ rfl (H8.out.row.alloc _) ⟨w8.heap.size, 0, none⟩ 1 1 [.int .i64 0, .int .i64 ((i : Int) + 1)] rfl rfl (World.news_of_block (cs := #[.int .i64 0, .int .i64 ((i : Int) + 1)]) (t := 38) (fr := (0, 0)) HN8.out) (one_pair _ _) (by omega) (by unfold maxLen; omega) (by omega) (by simp) (w8.heap.size + 1) (by simp) ?_; intro g2 cp2 w9 hown hgrow hat hlt; have HB := Lib.hid (And.intro hown (And.intro hgrow (And.intro hat hlt))); clear hown hgrow hat hlt) | fail)
      go_roundg (t - i)
      case measure => exact hig
      case rel =>
        obtain ⟨hown, hgrow, hat, hlt⟩ := HB.out
        refine ⟨i + 1, cp2, _, rfl, by go_num, by omega, by omega, ?_⟩
        rw [gens_succ]
        have := H8.out.append (p := ((0 : Int), (i : Int) + 1)) (Fr.alloc No w8 _) hown hgrow (by rcases hat with h1 | h1; exact .inl h1; right; rw [h1]; simp) hlt H8.out.apart.1 H8.out.apart.2
        push_cast
        exact this
    · obtain rfl : i = t := by omega
      have p1 : ¬ ((i : Int) < (i : Int)) := by omega
      go_wp2_with fail
      refine (HM.out _).mono ?_
      rintro e wm ⟨rfl, hwm⟩
      have hwm' := hwm.symm
      subst hwm'
      clear hwm
      obtain ⟨u0, u1⟩ := pair_cells HR.out.yy
      go_wp2_with fail
      obtain ⟨S1, hT1, hS1, hB1⟩ := HR.out.t
      refine (P.alloc_ok S1 hb _ 1 _ y0 y1 _ hT1 hS1 (by rw [stale_cnt]; omega) (by omega)).mono ?_
      rintro e w4 ⟨i4, gn4, A4, rfl, hput4, hA4, hf4⟩
      obtain ⟨rfl, rfl, rfl⟩ := put_stale hput4
      have H4 := Lib.hid (((hB1 _ _ _ hA4 hf4).1.box (.cells #[.int .i64 0, .int .i64 ((i : Int) + 1)] 38)).less (E' := fun k => k = w4.heap.size) fun k hk => .inr hk)
      have HX4 : Hid ((w4.alloc (.cells #[.int .i64 0, .int .i64 ((i : Int) + 1)] 38)).heap[w4.heap.size]? = some (.cells #[.int .i64 0, .int .i64 ((i : Int) + 1)] 38 (0, 0))) := heap_alloc_new w4 _
      clear hT1 hS1 hB1 hA4 hf4 hput4 u0 u1 HR
      go_wp2_with fail
      obtain ⟨bx, hbx⟩ : ∃ bx, w4.heap.size = bx := ⟨_, rfl⟩
      rw [hbx] at H4 HX4 ⊢
      clear hbx
      revert H4; revert HX4
      generalize w4.alloc (.cells #[.int .i64 0, .int .i64 ((i : Int) + 1)] 38) = w5
      intro HX4 H4
      go_loopg [17] (i + 1) (fun g s17 wr => ∃ (j : Nat), s17 = .int .i64 j ∧ j ≤ i ∧ i - j < g ∧ Hid (St w wr xb yb hb x0 x1 y0 y1 (.slice la i cp) i (gens i) [⟨true, (i : Int) + 1, [.int .i64 y0, .int .i64 y1]⟩] ((i : Nat) + 1) (fun k => k = bx) ∧ wr.heap[bx]? = some (.cells #[.int .i64 0, .int .i64 ((i : Int) + 1)] 38 (0, 0))))
      case atStart => exact ⟨0, by go_num, by omega, by omega, H4.out, HX4.out⟩
      case round =>
        obtain ⟨j, rfl, hji, hjg, HR⟩ := hrel
        clear H4 HX4
        by_cases hj : j < i
        · obtain ⟨lb, hlb, l0, l1⟩ := rowH_cell HR.out.1.row (gens_get hj)
          subst hlb
          have q1 : (j : Int) < (i : Int) := by omega
          have q2 : (0 : Int) ≤ (j : Int) := by omega
          go_wp2_with fail
          obtain ⟨S1, hT1⟩ := HR.out.1.uno.at_
          refine (P.get_miss S1 hb _ 1 _ 0 ((j : Int) + 1) _ hT1 (old_dead hj)).mono ?_
          rintro e w6 ⟨rfl, hf6⟩
          have hF6 := hf6.trans (Fr.alloc No w6 (.cells #[.int .i64 0, .int .i64 0] 52))
          have H6 := Lib.hid (HR.out.1.frNo hF6)
          have HX6 := Lib.hid ((hF6.block bx (HR.out.1.elt rfl) (fun h => h)).trans HR.out.2)
          clear hT1 hf6 hF6 l0 l1 HR
          go_wp2_with fail
          revert H6; revert HX6
          generalize w6.alloc (.cells #[.int .i64 0, .int .i64 0] 52) = w7
          intro HX6 H6
          obtain ⟨lb', hlb', l0, l1⟩ := rowH_cell H6.out.row (gens_get hj)
          cases hlb'
          obtain ⟨u0, u1⟩ := pair_cells H6.out.xx
          have l0' : w7.cell? ⟨lb, j * 2, none⟩ = some (.int .i64 0) := l0
          have l1' : w7.cell? ⟨lb, j * 2 + 1, none⟩ = some (.int .i64 ((j : Int) + 1)) := l1
          clear l0 l1
          obtain ⟨S7, hT7⟩ := (H6.out.frNo (Fr.drew No w7)).uno.at_
          have HT7 := Lib.hid hT7
          have HOD := Lib.hid (old_dead (vs := [.int .i64 y0, .int .i64 y1]) hj)
          clear hT7
          go_region_held3 (fun w' => w'.cell? ⟨lb, j * 2, none⟩ = some (.int .i64 0) ∧ w'.cell? ⟨lb, j * 2 + 1, none⟩ = some (.int .i64 ((j : Int) + 1)) ∧ w'.cell? ⟨xb, 0, none⟩ = some (.int .i64 x0) ∧ w'.cell? ⟨xb, 1, none⟩ = some (.int .i64 x1)) (go_keep) (first | (go_at_call 25; refine (P.set_miss S7 hb _ 1 _ 0 ((j : Int) + 1) x0 x1 _ HT7.out HOD.out).mono ?_; rintro e w8 ⟨rfl, hf8⟩; have H8 := Lib.hid ((H6.out.frNo (Fr.drew No w7)).frNo hf8); have HX8 := Lib.hid (((((Fr.drew No w7).trans hf8).block bx (H6.out.elt rfl) (fun h => h))).trans HX6.out); obtain ⟨lb8, hlb8, m0, m1⟩ := rowH_cell H8.out.row (gens_get hj); cases hlb8; have m0' : w8.cell? ⟨lb, j * 2, none⟩ = some (.int .i64 0) := m0; have m1' : w8.cell? ⟨lb, j * 2 + 1, none⟩ = some (.int .i64 ((j : Int) + 1)) := m1; obtain ⟨m2, m3⟩ := pair_cells H8.out.xx; obtain ⟨S8, hT8⟩ := H8.out.uno.at_; have HT8 := Lib.hid hT8; clear hf8 m0 m1 hT8) | (go_at_call 23; refine (P.free_miss S8 hb _ 1 _ 0 ((j : Int) + 1) _ HT8.out HOD.out).mono ?_; rintro e w9 ⟨rfl, hf9⟩; have H9 := Lib.hid (H8.out.frNo hf9); have HX9 := Lib.hid ((hf9.block bx (H8.out.elt rfl) (fun h => h)).trans HX8.out); obtain ⟨lb9, hlb9, n0, n1⟩ := rowH_cell H9.out.row (gens_get hj); cases hlb9; have n0' : w9.cell? ⟨lb, j * 2, none⟩ = some (.int .i64 0) := n0; have n1' : w9.cell? ⟨lb, j * 2 + 1, none⟩ = some (.int .i64 ((j : Int) + 1)) := n1; obtain ⟨n2, n3⟩ := pair_cells H9.out.xx; clear hf9 n0 n1))
          all_goals (
            go_wp2_with fail
            go_roundg (i - j)
            case measure => exact hjg
            case rel => exact ⟨j + 1, by go_num, by omega, by omega, H9.out, HX9.out⟩)
        · obtain rfl : j = i := by omega
          have q1 : ¬ ((j : Int) < (j : Int)) := by omega
          obtain ⟨u0, u1⟩ := pair_cells HR.out.2
          go_wp2_with fail
          obtain ⟨S1, hT1⟩ := HR.out.1.uno.at_
          refine (P.get_hit S1 hb _ 1 _ 0 ((j : Int) + 1) 0 y0 y1 _ hT1 ⟨rfl, rfl, rfl, rfl⟩).mono ?_
          rintro e w6 ⟨rfl, hf6⟩
          have H6 := Lib.hid (((HR.out.1.frNo hf6).box (.cells #[.int .i64 y0, .int .i64 y1] 52)).less (E' := fun k => k = w6.heap.size) fun k hk => .inr hk)
          have HX6 : Hid ((w6.alloc (.cells #[.int .i64 y0, .int .i64 y1] 52)).heap[w6.heap.size]? = some (.cells #[.int .i64 y0, .int .i64 y1] 52 (0, 0))) := heap_alloc_new w6 _
          clear hT1 hf6 u0 u1 HR
          go_wp2_with fail
          obtain ⟨vb, hvb⟩ : ∃ vb, w6.heap.size = vb := ⟨_, rfl⟩
          rw [hvb] at H6 HX6 ⊢
          clear hvb
          revert H6; revert HX6
          generalize w6.alloc (.cells #[.int .i64 y0, .int .i64 y1] 52) = w7
          intro HX6 H6
          refine (awake_any _).mono ?_
          rintro e w8 ⟨rfl, hf8⟩
          have H8 := Lib.hid (H6.out.frNo hf8)
          obtain ⟨u0, u1⟩ := pair_cells ((hf8.block vb (H6.out.elt rfl) (fun h => h)).trans HX6.out)
          obtain ⟨v0, v1⟩ := pair_cells H8.out.yy
          obtain ⟨S8, hT8⟩ := H8.out.uno.at_
          have HT8 := Lib.hid hT8
          clear hf8 hT8 H6 HX6
          go_wp2_with (go_at_call 26; refine (P.len_any S8 hb _ 1 _ _ HT8.out).mono ?_; rintro e w9 ⟨rfl, rfl⟩)
          all_goals (
            go_ret
            exact ⟨rfl, H8.out.uno.fr.below (fun k hk => hk) (Nat.le_refl _)⟩)

set_option maxRecDepth 100000 in
theorem lifted (os : Os) (started : os.Started) (H : Type) (enc : TypeId × Value → H) :
    ReturnsInHanded {} Try.checked os 5 .any (Rows.arenaRejectsStaleHandlesSpec.pre6 enc Try.prog Try.f5 Rows.arenaRejectsStaleHandlesRow.domain false) (Rows.arenaRejectsStaleHandlesSpec.post enc Try.prog Try.f5 false true false false) := by
  refine returnsInHanded_of_change (C := Try.checked) own started (by kernel_rfl) Try.func5
    (ChangeSpec.witness6 (enc := enc) (C := Try.checked) false ⟨#[], #[.int .i64 0, .agg #[.int .i64 0, .int .i64 0], .agg #[.int .i64 0, .int .i64 0]], []⟩ 8 (by kernel_rfl) (by kernel_rfl) (by kernel_rfl) (by kernel_rfl)) ?_
  intro W base args ds gs before hval0 hW hcnd _
  have hval : ∀ (j : Nat) t v, Try.f5.params[j]? = some t → args[j]? = some v → Value.okWide Try.prog W .any base t v := hval0
  have hW' := hW
  obtain ⟨p, q, hA0, hV, rfl, hfz, hnd⟩ := hW
  have hA : DataW.TrodAll enc Try.prog W 0 (fun _ => true) true Try.f5.params.toList args.toList ds p := hA0
  rw [Try.params5] at hA hval
  obtain ⟨v0, vs0, d0, ds0, p0, q0, hargs, rfl, rfl, h0, r0⟩ := trodAll_cons hA
  obtain ⟨v1, vs1, d1, ds1, p1, q1, rfl, rfl, rfl, h1, r1⟩ := trodAll_cons r0
  obtain ⟨v2, vs2, d2, ds2, p2, q2, rfl, rfl, rfl, h2, r2⟩ := trodAll_cons r1
  obtain ⟨rfl, rfl, rfl⟩ := trodAll_nil r2
  obtain rfl : args = #[v0, v1, v2] := by cases args; simp_all
  obtain ⟨rfl, rfl⟩ := trodVars_none hV
  obtain ⟨a0, rfl, rfl, rfl, w0⟩ := open_int Try.underlying3 (hval 0 3 v0 rfl rfl) h0
  have k1 := h1
  have lt1 : ∀ x ∈ p1, x.block < W.heap.size := by obtain ⟨m, hm⟩ := k1; exact DataW.trod_lt m _ _ _ hm
  have k2 := h2
  have lt2 : ∀ x ∈ p2, x.block < W.heap.size := by obtain ⟨m, hm⟩ := k2; exact DataW.trod_lt m _ _ _ hm
  obtain ⟨c0, c1, e0, e1, m1, hv1, _, _, hy0, hy1⟩ := open_agg2 Try.underlying52 (by kernel_rfl) cells52 (hval 1 52 v1 rfl rfl) h1
  obtain ⟨x0, g0, _, _⟩ := DataW.trod_int Try.underlying3 hy0
  obtain ⟨x1, g1, _, _⟩ := DataW.trod_int Try.underlying3 hy1
  obtain ⟨c2, c3, e2, e3, m2, hv2, _, _, hy2, hy3⟩ := open_agg2 Try.underlying52 (by kernel_rfl) cells52 (hval 2 52 v2 rfl rfl) h2
  obtain ⟨y0, g2, _, _⟩ := DataW.trod_int Try.underlying3 hy2
  obtain ⟨y1, g3, _, _⟩ := DataW.trod_int Try.underlying3 hy3
  simp at g0 g1 g2 g3
  subst g0 g1 g2 g3
  subst hv1 hv2
  clear hA0 hval0
  refine (walk a0 x0 x1 y0 y1 w0 W).mono fun e W' ⟨he, bel⟩ => ?_
  subst he
  exact ⟨_, rfl, _, _, _, [], _, [], hW', trodAll_mk1 (shut_bool Try.underlying4 _), (trodAll_cons_mk (shut_int Try.underlying3 w0) (trodAll_cons_mk (Below.trod laidOut (by kernel_rfl) (of_decide_eq_true (by kernel_rfl)) k1 bel lt1) (trodAll_cons_mk (Below.trod laidOut (by kernel_rfl) (of_decide_eq_true (by kernel_rfl)) k2 bel lt2) trodAll_mk0))), rfl, bel.frame _, fun h => by cases h⟩

theorem over : Rows.arenaRejectsStaleHandlesRow.holds Try.pinned (OpenSpec.ofChange Rows.arenaRejectsStaleHandlesSpec) :=
  OpenClaim.holds_of_wide 5 Try.f5 rfl rfl rfl rfl rfl rfl rfl ⟨rfl, rfl, rfl, rfl, rfl⟩ rfl rfl rfl rfl rfl (by kernel_rfl) Try.func5 (by kernel_rfl)
    (of_decide_eq_true (by kernel_rfl)) (by unfold Func.isWrapper; first | (rw [if_pos (by decide +kernel)]; kernel_rfl) | (rw [if_neg (by decide +kernel)]; exact ⟨rfl, rfl⟩))
    (fun os started H enc _ => lifted os started H enc)

end Go.Proofs.Ytgelgnakhghpkaa.arenaRejectsStaleHandles

namespace Go.Proofs.Ytgelgnakhghpkaa
/-- The statement. -/
theorem arenaRejectsStaleHandles_holds : Rows.ArenaRejectsStaleHandlesSaid := arenaRejectsStaleHandles.over
#print axioms arenaRejectsStaleHandles_holds
end Go.Proofs.Ytgelgnakhghpkaa
