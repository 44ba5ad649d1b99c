/-
  The law FdtableValidatesEndpoint returns true for every endpoint and every two bools, and changes nothing that was in memory before.
  Conditions: none beyond the row's own.
-/
import Derived.Test.YtanhjjinedjaaaaAwake
import Derived.Test.YtanhjjinedjaaaaRv
import Derived.Deep.DeepCutAuto
import Derived.Deep.CutBlock
import Derived.Deep.RegionHeld3
namespace Go.Proofs.Ytanhjjinedjaaaa
open Go.ChangeShapes Go.WideShapes Go.ChangeAt Go.RowKit
set_option linter.unusedVariables false

set_option maxHeartbeats 2000000 in
set_option maxRecDepth 100000 in
theorem endpoint_law (x0 y0 : Int) (b1 b2 : Bool) (w : World) :
    Calls Try.prog 7 #[.agg #[.int .i64 x0, .int .i64 y0], .bool b1, .bool b2] w fun e w' => e = .returned (.bool true) ∧ Below w.heap.size w w' := by
  go_enter Try.func7, Try.ntmps7
  go_wp2_with fail
  have HF0 : Hid (Fr (fun k => w.heap.size ≤ k) w (w.alloc (.cells #[.int .i64 x0, .int .i64 y0] 38))) := Fr.alloc _ _ _
  have HX0 : Hid ((w.alloc (.cells #[.int .i64 x0, .int .i64 y0] 38)).heap[w.heap.size]? = some (.cells #[.int .i64 x0, .int .i64 y0] 38 (0, 0))) := heap_alloc_new w _
  have HXL : Hid (w.heap.size < (w.alloc (.cells #[.int .i64 x0, .int .i64 y0] 38)).heap.size) := by simp [Hid]
  obtain ⟨xb, hxb⟩ : ∃ xb, w.heap.size = xb := ⟨_, rfl⟩
  rw [hxb] at HX0 HXL ⊢
  have HXB := Lib.hid hxb
  clear hxb
  revert HXL; revert HX0; revert HF0
  generalize w.alloc (.cells #[.int .i64 x0, .int .i64 y0] 38) = y
  intro HF0 HX0 HXL
  refine (new_ok (fun k => y.heap.size ≤ k) 1 _ (by omega) (by omega) (fun k hk => hk)).mono ?_
  rintro e w1 ⟨hb, rfl, hA1, hf1⟩
  have H1 : Hid (Duo w w1 (fun k => k = xb) (Tab hb [] 1 0) Nil ∧ w1.heap[xb]? = some (.cells #[.int .i64 x0, .int .i64 y0] 38 (0, 0))) := by
    refine ⟨(duo_born (tab_mov hb [] 1 0) hA1 (fun k hk => hk) hf1 HF0.out).less fun k hk => ?_, (hf1.block xb HXL.out (fun h => h)).trans HX0.out⟩
    rw [hk]
    exact ⟨Nat.le_of_eq HXB.out, HXL.out⟩
  clear hA1 hf1 HF0 HX0 HXL
  have hx1 := ((Fr.alloc No w1 (.cells #[.int .i64 5, .int .i64 5] 38)).block xb (H1.out.1.zlt (k := xb) rfl).2 (fun h => h)).trans H1.out.2
  obtain ⟨x00, x01⟩ := pair_cells hx1
  clear hx1
  by_cases hx : x0 = 5
  · by_cases hy : y0 = 5
    · subst hx hy
      go_upto_if 30 with fail
      obtain ⟨ob, hob⟩ : ∃ ob, w1.heap.size = ob := ⟨_, rfl⟩
      rw [hob]
      have HOB := Lib.hid hob
      clear hob
      have H2 : Hid (Duo w (w1.alloc (.cells #[.int .i64 5, .int .i64 6] 38)) (fun k => k = xb ∨ k = ob) (Tab hb [] 1 0) Nil ∧ Bx (w1.alloc (.cells #[.int .i64 5, .int .i64 6] 38)) xb ob 5 5 5 6) := by
        have hlt := H1.out.1.zlt (k := xb) rfl
        have hx : (w1.alloc (.cells #[.int .i64 5, .int .i64 6] 38)).heap[xb]? = some (.cells #[.int .i64 5, .int .i64 5] 38 (0, 0)) := ((Fr.alloc No w1 _).block xb hlt.2 (fun h => h)).trans H1.out.2
        have ho : (w1.alloc (.cells #[.int .i64 5, .int .i64 6] 38)).heap[ob]? = some (.cells #[.int .i64 5, .int .i64 6] 38 (0, 0)) := by rw [← HOB.out]; exact heap_alloc_new w1 _
        have hd : Duo w (w1.alloc (.cells #[.int .i64 5, .int .i64 6] 38)) (fun k => k = xb ∨ k = ob) (Tab hb [] 1 0) Nil := (H1.out.1.box _).less fun k hk => by rw [HOB.out]; exact hk
        exact ⟨hd, hx, ho⟩
      revert H2
      generalize (w1.alloc (.cells #[.int .i64 5, .int .i64 6] 38)) = w2
      intro H2
      have HNE : Hid (((5 : Int), (6 : Int)) ≠ (5, 5)) := by show _ ≠ _; decide
      clear HOB H1 x00 x01
      obtain ⟨o0, o1⟩ := pair_cells H2.out.2.b
      obtain ⟨x00, x01⟩ := pair_cells H2.out.2.a
      cases b1 with
      | true =>
        go_wp2_with fail
        refine (duo_open H2.out.1 5 6 false (by omega)).mono ?_
        rintro e w3 ⟨no, r, L3, k3, rfl, hO, hD, hK⟩
        obtain ⟨rfl, rfl, rfl, rfl⟩ := hO.first (by decide) (by omega)
        have hB3 := H2.out.2.keep hK
        have H3 := Lib.hid (And.intro hD hB3)
        obtain ⟨x02, x03⟩ := pair_cells hB3.a
        clear hO hD hK H2 hB3 o0 o1 x00 x01
        go_wp2_with fail
        by_cases hv : Valid (5, 5)
        · have HV := Lib.hid hv
          clear hv
          refine (refValid_yes 5 5 _ HV.out).mono ?_
          rintro e w4 ⟨rfl, hf4⟩
          have hB4 := H3.out.2.frNo hf4
          have H4 := Lib.hid (And.intro (H3.out.1.frNo hf4) hB4)
          obtain ⟨x04, x05⟩ := pair_cells hB4.a
          clear hf4 H3 hB4 x02 x03
          go_wp2_with fail
          refine (duo_open H4.out.1 5 5 b2 (by omega)).mono ?_
          rintro e w5 ⟨no, r, L5, k5, rfl, hO, hD, hK⟩
          obtain ⟨rfl, rfl, rfl, rfl⟩ := hO.full HV.out (fun d hd => by simp at hd; subst hd; exact HNE.out) (by simp)
          have H5 := Lib.hid hD
          clear hO hD hK H4 x04 x05
          go_wp2_with fail
          refine (awake_any _).mono ?_
          rintro e w6 ⟨rfl, hf6⟩
          have H6 := Lib.hid (H5.out.frNo hf6)
          clear hf6 H5
          go_wp2_with fail
          go_ret
          exact ⟨rfl, H6.out.fr.below (fun k hk => hk) (Nat.le_refl _)⟩
        · have HV := Lib.hid hv
          clear hv
          refine (refValid_no 5 5 _ HV.out).mono ?_
          rintro e w4 ⟨rfl, hf4⟩
          have hB4 := H3.out.2.frNo hf4
          have H4 := Lib.hid (And.intro (H3.out.1.frNo hf4) hB4)
          obtain ⟨x04, x05⟩ := pair_cells hB4.a
          clear hf4 H3 hB4 x02 x03
          go_wp2_with fail
          refine (duo_open H4.out.1 5 5 b2 (by omega)).mono ?_
          rintro e w5 ⟨no, r, L5, k5, rfl, hO, hD, hK⟩
          obtain ⟨rfl, rfl, rfl, rfl⟩ := hO.bad HV.out
          have H5 := Lib.hid hD
          clear hO hD hK H4 x04 x05
          go_wp2_with fail
          refine (awake_any _).mono ?_
          rintro e w6 ⟨rfl, hf6⟩
          have H6 := Lib.hid (H5.out.frNo hf6)
          clear hf6 H5
          go_wp2_with fail
          go_ret
          exact ⟨rfl, H6.out.fr.below (fun k hk => hk) (Nat.le_refl _)⟩
      | false =>
        go_wp2_with fail
        by_cases hv : Valid (5, 5)
        · have HV := Lib.hid hv
          clear hv
          refine (refValid_yes 5 5 _ HV.out).mono ?_
          rintro e w4 ⟨rfl, hf4⟩
          have hB4 := H2.out.2.frNo hf4
          have H4 := Lib.hid (And.intro (H2.out.1.frNo hf4) hB4)
          obtain ⟨x04, x05⟩ := pair_cells hB4.a
          clear hf4 H2 hB4 x00 x01 o0 o1
          go_wp2_with fail
          refine (duo_open H4.out.1 5 5 b2 (by omega)).mono ?_
          rintro e w5 ⟨no, r, L5, k5, rfl, hO, hD, hK⟩
          obtain ⟨rfl, rfl, rfl, rfl⟩ := hO.first HV.out (by omega)
          have hB5 := H4.out.2.keep hK
          have H5 := Lib.hid (And.intro hD hB5)
          clear hO hD hK H4 x04 x05 hB5
          go_wp2_with fail
          refine (awake_any _).mono ?_
          rintro e w6 ⟨rfl, hf6⟩
          have hB6 := H5.out.2.frNo hf6
          have H6 := Lib.hid (And.intro (H5.out.1.frNo hf6) hB6)
          obtain ⟨x06, x07⟩ := pair_cells hB6.a
          clear hf6 H5 hB6
          go_wp2_with fail
          refine (duo_state H6.out.1 5 5).mono ?_
          rintro e w7 ⟨v, rfl, hv, hf7⟩
          have hv' := hv.mem H6.out.1.good.sorted (List.mem_singleton.2 rfl) rfl
          have hv0 : (v != 0) = true := by rw [hv']; cases b2 <;> rfl
          have H7 := Lib.hid (H6.out.1.frNo hf7)
          clear hv hv' hf7 H6 x06 x07
          go_wp2_with fail
          go_ret
          exact ⟨rfl, H7.out.fr.below (fun k hk => hk) (Nat.le_refl _)⟩
        · have HV := Lib.hid hv
          clear hv
          refine (refValid_no 5 5 _ HV.out).mono ?_
          rintro e w4 ⟨rfl, hf4⟩
          have hB4 := H2.out.2.frNo hf4
          have H4 := Lib.hid (And.intro (H2.out.1.frNo hf4) hB4)
          obtain ⟨x04, x05⟩ := pair_cells hB4.a
          clear hf4 H2 hB4 x00 x01 o0 o1
          go_wp2_with fail
          refine (duo_open H4.out.1 5 5 b2 (by omega)).mono ?_
          rintro e w5 ⟨no, r, L5, k5, rfl, hO, hD, hK⟩
          obtain ⟨rfl, rfl, rfl, rfl⟩ := hO.bad HV.out
          have H5 := Lib.hid hD
          clear hO hD hK H4 x04 x05
          go_wp2_with fail
          refine (awake_any _).mono ?_
          rintro e w6 ⟨rfl, hf6⟩
          have H6 := Lib.hid (H5.out.frNo hf6)
          clear hf6 H5
          go_wp2_with fail
          go_ret
          exact ⟨rfl, H6.out.fr.below (fun k hk => hk) (Nat.le_refl _)⟩
    · subst hx
      go_upto_if 30 with fail
      obtain ⟨ob, hob⟩ : ∃ ob, w1.heap.size = ob := ⟨_, rfl⟩
      rw [hob]
      have HOB := Lib.hid hob
      clear hob
      have H2 : Hid (Duo w (w1.alloc (.cells #[.int .i64 5, .int .i64 5] 38)) (fun k => k = xb ∨ k = ob) (Tab hb [] 1 0) Nil ∧ Bx (w1.alloc (.cells #[.int .i64 5, .int .i64 5] 38)) xb ob 5 y0 5 5) := by
        have hlt := H1.out.1.zlt (k := xb) rfl
        have hx : (w1.alloc (.cells #[.int .i64 5, .int .i64 5] 38)).heap[xb]? = some (.cells #[.int .i64 5, .int .i64 y0] 38 (0, 0)) := ((Fr.alloc No w1 _).block xb hlt.2 (fun h => h)).trans H1.out.2
        have ho : (w1.alloc (.cells #[.int .i64 5, .int .i64 5] 38)).heap[ob]? = some (.cells #[.int .i64 5, .int .i64 5] 38 (0, 0)) := by rw [← HOB.out]; exact heap_alloc_new w1 _
        have hd : Duo w (w1.alloc (.cells #[.int .i64 5, .int .i64 5] 38)) (fun k => k = xb ∨ k = ob) (Tab hb [] 1 0) Nil := (H1.out.1.box _).less fun k hk => by rw [HOB.out]; exact hk
        exact ⟨hd, hx, ho⟩
      revert H2
      generalize (w1.alloc (.cells #[.int .i64 5, .int .i64 5] 38)) = w2
      intro H2
      have HNE : Hid (((5 : Int), (5 : Int)) ≠ (5, y0)) := fun h => hy (Prod.ext_iff.1 h).2.symm
      clear HOB H1 x00 x01
      obtain ⟨o0, o1⟩ := pair_cells H2.out.2.b
      obtain ⟨x00, x01⟩ := pair_cells H2.out.2.a
      cases b1 with
      | true =>
        go_wp2_with fail
        refine (duo_open H2.out.1 5 5 false (by omega)).mono ?_
        rintro e w3 ⟨no, r, L3, k3, rfl, hO, hD, hK⟩
        obtain ⟨rfl, rfl, rfl, rfl⟩ := hO.first (by decide) (by omega)
        have hB3 := H2.out.2.keep hK
        have H3 := Lib.hid (And.intro hD hB3)
        obtain ⟨x02, x03⟩ := pair_cells hB3.a
        clear hO hD hK H2 hB3 o0 o1 x00 x01
        go_wp2_with fail
        by_cases hv : Valid (5, y0)
        · have HV := Lib.hid hv
          clear hv
          refine (refValid_yes 5 y0 _ HV.out).mono ?_
          rintro e w4 ⟨rfl, hf4⟩
          have hB4 := H3.out.2.frNo hf4
          have H4 := Lib.hid (And.intro (H3.out.1.frNo hf4) hB4)
          obtain ⟨x04, x05⟩ := pair_cells hB4.a
          clear hf4 H3 hB4 x02 x03
          go_wp2_with fail
          refine (duo_open H4.out.1 5 y0 b2 (by omega)).mono ?_
          rintro e w5 ⟨no, r, L5, k5, rfl, hO, hD, hK⟩
          obtain ⟨rfl, rfl, rfl, rfl⟩ := hO.full HV.out (fun d hd => by simp at hd; subst hd; exact HNE.out) (by simp)
          have H5 := Lib.hid hD
          clear hO hD hK H4 x04 x05
          go_wp2_with fail
          refine (awake_any _).mono ?_
          rintro e w6 ⟨rfl, hf6⟩
          have H6 := Lib.hid (H5.out.frNo hf6)
          clear hf6 H5
          go_wp2_with fail
          go_ret
          exact ⟨rfl, H6.out.fr.below (fun k hk => hk) (Nat.le_refl _)⟩
        · have HV := Lib.hid hv
          clear hv
          refine (refValid_no 5 y0 _ HV.out).mono ?_
          rintro e w4 ⟨rfl, hf4⟩
          have hB4 := H3.out.2.frNo hf4
          have H4 := Lib.hid (And.intro (H3.out.1.frNo hf4) hB4)
          obtain ⟨x04, x05⟩ := pair_cells hB4.a
          clear hf4 H3 hB4 x02 x03
          go_wp2_with fail
          refine (duo_open H4.out.1 5 y0 b2 (by omega)).mono ?_
          rintro e w5 ⟨no, r, L5, k5, rfl, hO, hD, hK⟩
          obtain ⟨rfl, rfl, rfl, rfl⟩ := hO.bad HV.out
          have H5 := Lib.hid hD
          clear hO hD hK H4 x04 x05
          go_wp2_with fail
          refine (awake_any _).mono ?_
          rintro e w6 ⟨rfl, hf6⟩
          have H6 := Lib.hid (H5.out.frNo hf6)
          clear hf6 H5
          go_wp2_with fail
          go_ret
          exact ⟨rfl, H6.out.fr.below (fun k hk => hk) (Nat.le_refl _)⟩
      | false =>
        go_wp2_with fail
        by_cases hv : Valid (5, y0)
        · have HV := Lib.hid hv
          clear hv
          refine (refValid_yes 5 y0 _ HV.out).mono ?_
          rintro e w4 ⟨rfl, hf4⟩
          have hB4 := H2.out.2.frNo hf4
          have H4 := Lib.hid (And.intro (H2.out.1.frNo hf4) hB4)
          obtain ⟨x04, x05⟩ := pair_cells hB4.a
          clear hf4 H2 hB4 x00 x01 o0 o1
          go_wp2_with fail
          refine (duo_open H4.out.1 5 y0 b2 (by omega)).mono ?_
          rintro e w5 ⟨no, r, L5, k5, rfl, hO, hD, hK⟩
          obtain ⟨rfl, rfl, rfl, rfl⟩ := hO.first HV.out (by omega)
          have hB5 := H4.out.2.keep hK
          have H5 := Lib.hid (And.intro hD hB5)
          clear hO hD hK H4 x04 x05 hB5
          go_wp2_with fail
          refine (awake_any _).mono ?_
          rintro e w6 ⟨rfl, hf6⟩
          have hB6 := H5.out.2.frNo hf6
          have H6 := Lib.hid (And.intro (H5.out.1.frNo hf6) hB6)
          obtain ⟨x06, x07⟩ := pair_cells hB6.a
          clear hf6 H5 hB6
          go_wp2_with fail
          refine (duo_state H6.out.1 5 y0).mono ?_
          rintro e w7 ⟨v, rfl, hv, hf7⟩
          have hv' := hv.mem H6.out.1.good.sorted (List.mem_singleton.2 rfl) rfl
          have hv0 : (v != 0) = true := by rw [hv']; cases b2 <;> rfl
          have H7 := Lib.hid (H6.out.1.frNo hf7)
          clear hv hv' hf7 H6 x06 x07
          go_wp2_with fail
          go_ret
          exact ⟨rfl, H7.out.fr.below (fun k hk => hk) (Nat.le_refl _)⟩
        · have HV := Lib.hid hv
          clear hv
          refine (refValid_no 5 y0 _ HV.out).mono ?_
          rintro e w4 ⟨rfl, hf4⟩
          have hB4 := H2.out.2.frNo hf4
          have H4 := Lib.hid (And.intro (H2.out.1.frNo hf4) hB4)
          obtain ⟨x04, x05⟩ := pair_cells hB4.a
          clear hf4 H2 hB4 x00 x01 o0 o1
          go_wp2_with fail
          refine (duo_open H4.out.1 5 y0 b2 (by omega)).mono ?_
          rintro e w5 ⟨no, r, L5, k5, rfl, hO, hD, hK⟩
          obtain ⟨rfl, rfl, rfl, rfl⟩ := hO.bad HV.out
          have H5 := Lib.hid hD
          clear hO hD hK H4 x04 x05
          go_wp2_with fail
          refine (awake_any _).mono ?_
          rintro e w6 ⟨rfl, hf6⟩
          have H6 := Lib.hid (H5.out.frNo hf6)
          clear hf6 H5
          go_wp2_with fail
          go_ret
          exact ⟨rfl, H6.out.fr.below (fun k hk => hk) (Nat.le_refl _)⟩
  · go_upto_if 30 with fail
    obtain ⟨ob, hob⟩ : ∃ ob, w1.heap.size = ob := ⟨_, rfl⟩
    rw [hob]
    have HOB := Lib.hid hob
    clear hob
    have H2 : Hid (Duo w (w1.alloc (.cells #[.int .i64 5, .int .i64 5] 38)) (fun k => k = xb ∨ k = ob) (Tab hb [] 1 0) Nil ∧ Bx (w1.alloc (.cells #[.int .i64 5, .int .i64 5] 38)) xb ob x0 y0 5 5) := by
      have hlt := H1.out.1.zlt (k := xb) rfl
      have hx : (w1.alloc (.cells #[.int .i64 5, .int .i64 5] 38)).heap[xb]? = some (.cells #[.int .i64 x0, .int .i64 y0] 38 (0, 0)) := ((Fr.alloc No w1 _).block xb hlt.2 (fun h => h)).trans H1.out.2
      have ho : (w1.alloc (.cells #[.int .i64 5, .int .i64 5] 38)).heap[ob]? = some (.cells #[.int .i64 5, .int .i64 5] 38 (0, 0)) := by rw [← HOB.out]; exact heap_alloc_new w1 _
      have hd : Duo w (w1.alloc (.cells #[.int .i64 5, .int .i64 5] 38)) (fun k => k = xb ∨ k = ob) (Tab hb [] 1 0) Nil := (H1.out.1.box _).less fun k hk => by rw [HOB.out]; exact hk
      exact ⟨hd, hx, ho⟩
    revert H2
    generalize (w1.alloc (.cells #[.int .i64 5, .int .i64 5] 38)) = w2
    intro H2
    have HNE : Hid (((5 : Int), (5 : Int)) ≠ (x0, y0)) := fun h => hx (Prod.ext_iff.1 h).1.symm
    clear HOB H1 x00 x01
    obtain ⟨o0, o1⟩ := pair_cells H2.out.2.b
    obtain ⟨x00, x01⟩ := pair_cells H2.out.2.a
    cases b1 with
    | true =>
      go_wp2_with fail
      refine (duo_open H2.out.1 5 5 false (by omega)).mono ?_
      rintro e w3 ⟨no, r, L3, k3, rfl, hO, hD, hK⟩
      obtain ⟨rfl, rfl, rfl, rfl⟩ := hO.first (by decide) (by omega)
      have hB3 := H2.out.2.keep hK
      have H3 := Lib.hid (And.intro hD hB3)
      obtain ⟨x02, x03⟩ := pair_cells hB3.a
      clear hO hD hK H2 hB3 o0 o1 x00 x01
      go_wp2_with fail
      by_cases hv : Valid (x0, y0)
      · have HV := Lib.hid hv
        clear hv
        refine (refValid_yes x0 y0 _ HV.out).mono ?_
        rintro e w4 ⟨rfl, hf4⟩
        have hB4 := H3.out.2.frNo hf4
        have H4 := Lib.hid (And.intro (H3.out.1.frNo hf4) hB4)
        obtain ⟨x04, x05⟩ := pair_cells hB4.a
        clear hf4 H3 hB4 x02 x03
        go_wp2_with fail
        refine (duo_open H4.out.1 x0 y0 b2 (by omega)).mono ?_
        rintro e w5 ⟨no, r, L5, k5, rfl, hO, hD, hK⟩
        obtain ⟨rfl, rfl, rfl, rfl⟩ := hO.full HV.out (fun d hd => by simp at hd; subst hd; exact HNE.out) (by simp)
        have H5 := Lib.hid hD
        clear hO hD hK H4 x04 x05
        go_wp2_with fail
        refine (awake_any _).mono ?_
        rintro e w6 ⟨rfl, hf6⟩
        have H6 := Lib.hid (H5.out.frNo hf6)
        clear hf6 H5
        go_wp2_with fail
        go_ret
        exact ⟨rfl, H6.out.fr.below (fun k hk => hk) (Nat.le_refl _)⟩
      · have HV := Lib.hid hv
        clear hv
        refine (refValid_no x0 y0 _ HV.out).mono ?_
        rintro e w4 ⟨rfl, hf4⟩
        have hB4 := H3.out.2.frNo hf4
        have H4 := Lib.hid (And.intro (H3.out.1.frNo hf4) hB4)
        obtain ⟨x04, x05⟩ := pair_cells hB4.a
        clear hf4 H3 hB4 x02 x03
        go_wp2_with fail
        refine (duo_open H4.out.1 x0 y0 b2 (by omega)).mono ?_
        rintro e w5 ⟨no, r, L5, k5, rfl, hO, hD, hK⟩
        obtain ⟨rfl, rfl, rfl, rfl⟩ := hO.bad HV.out
        have H5 := Lib.hid hD
        clear hO hD hK H4 x04 x05
        go_wp2_with fail
        refine (awake_any _).mono ?_
        rintro e w6 ⟨rfl, hf6⟩
        have H6 := Lib.hid (H5.out.frNo hf6)
        clear hf6 H5
        go_wp2_with fail
        go_ret
        exact ⟨rfl, H6.out.fr.below (fun k hk => hk) (Nat.le_refl _)⟩
    | false =>
      go_wp2_with fail
      by_cases hv : Valid (x0, y0)
      · have HV := Lib.hid hv
        clear hv
        refine (refValid_yes x0 y0 _ HV.out).mono ?_
        rintro e w4 ⟨rfl, hf4⟩
        have hB4 := H2.out.2.frNo hf4
        have H4 := Lib.hid (And.intro (H2.out.1.frNo hf4) hB4)
        obtain ⟨x04, x05⟩ := pair_cells hB4.a
        clear hf4 H2 hB4 x00 x01 o0 o1
        go_wp2_with fail
        refine (duo_open H4.out.1 x0 y0 b2 (by omega)).mono ?_
        rintro e w5 ⟨no, r, L5, k5, rfl, hO, hD, hK⟩
        obtain ⟨rfl, rfl, rfl, rfl⟩ := hO.first HV.out (by omega)
        have hB5 := H4.out.2.keep hK
        have H5 := Lib.hid (And.intro hD hB5)
        clear hO hD hK H4 x04 x05 hB5
        go_wp2_with fail
        refine (awake_any _).mono ?_
        rintro e w6 ⟨rfl, hf6⟩
        have hB6 := H5.out.2.frNo hf6
        have H6 := Lib.hid (And.intro (H5.out.1.frNo hf6) hB6)
        obtain ⟨x06, x07⟩ := pair_cells hB6.a
        clear hf6 H5 hB6
        go_wp2_with fail
        refine (duo_state H6.out.1 x0 y0).mono ?_
        rintro e w7 ⟨v, rfl, hv, hf7⟩
        have hv' := hv.mem H6.out.1.good.sorted (List.mem_singleton.2 rfl) rfl
        have hv0 : (v != 0) = true := by rw [hv']; cases b2 <;> rfl
        have H7 := Lib.hid (H6.out.1.frNo hf7)
        clear hv hv' hf7 H6 x06 x07
        go_wp2_with fail
        go_ret
        exact ⟨rfl, H7.out.fr.below (fun k hk => hk) (Nat.le_refl _)⟩
      · have HV := Lib.hid hv
        clear hv
        refine (refValid_no x0 y0 _ HV.out).mono ?_
        rintro e w4 ⟨rfl, hf4⟩
        have hB4 := H2.out.2.frNo hf4
        have H4 := Lib.hid (And.intro (H2.out.1.frNo hf4) hB4)
        obtain ⟨x04, x05⟩ := pair_cells hB4.a
        clear hf4 H2 hB4 x00 x01 o0 o1
        go_wp2_with fail
        refine (duo_open H4.out.1 x0 y0 b2 (by omega)).mono ?_
        rintro e w5 ⟨no, r, L5, k5, rfl, hO, hD, hK⟩
        obtain ⟨rfl, rfl, rfl, rfl⟩ := hO.bad HV.out
        have H5 := Lib.hid hD
        clear hO hD hK H4 x04 x05
        go_wp2_with fail
        refine (awake_any _).mono ?_
        rintro e w6 ⟨rfl, hf6⟩
        have H6 := Lib.hid (H5.out.frNo hf6)
        clear hf6 H5
        go_wp2_with fail
        go_ret
        exact ⟨rfl, H6.out.fr.below (fun k hk => hk) (Nat.le_refl _)⟩

end Go.Proofs.Ytanhjjinedjaaaa
