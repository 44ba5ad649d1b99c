/-
  CONTRACT of awake, over this seat's translation: it returns true.
  Conditions: none.
-/
import Derived.Test.YtgelgnakhghpkaaUno
import Derived.Test.YtgelgnakhghpkaaS4
import Derived.Test.YtgelgnakhghpkaaI1
namespace Go.Proofs.Ytgelgnakhghpkaa
open Go.ChangeShapes Go.WideShapes Go.ChangeAt Go.RowKit
set_option linter.unusedVariables false

abbrev US := Uno S.V 87 89 3

set_option maxHeartbeats 2000000 in
set_option maxRecDepth 100000 in
theorem awake_any (w : World) : Calls Try.prog 8 #[] w fun e w' => e = .returned (.bool true) ∧ Fr No w w' := by
  go_enter Try.func8, Try.ntmps8
  go_wp2_with fail
  refine (S.new_ok (fun k => w.heap.size ≤ k) 2 _ (by omega) (by omega) (fun k hk => hk)).mono ?_
  rintro e w1 ⟨hb, rfl, hhb, hA1, hf1⟩
  have H1 : Hid (US w w1 (fun _ => False) hb [] 2 0) := (uno_born hA1 (fun k hk => hk) hf1 (Fr.refl _ _)).less fun k hk => hk.elim
  clear hA1 hf1
  go_wp2_with fail
  refine (I.new_bad 0 _ (by omega)).mono ?_
  rintro e w2 ⟨rfl, hw2⟩
  have H2 : Hid (US w w2 (fun _ => False) hb [] 2 0) := by rw [hw2]; exact H1.out
  clear hw2 H1
  go_wp2_with fail
  obtain ⟨S1, hT1, hS1, hB1⟩ := H2.out.t
  refine (S.alloc_ok S1 hb [] 2 0 { data := #[97] } _ hT1 hS1 (by decide) (by omega)).mono ?_
  rintro e w3 ⟨i, gn, A', rfl, hput, hA3, hf3⟩
  obtain ⟨rfl, rfl, rfl⟩ := hput.first
  have h3 := (hB1 _ _ _ hA3 hf3).1
  have H3 := Lib.hid ((h3.box (.cells #[.int .i64 0, .int .i64 1] 38)).less (Z' := fun k => k = w3.heap.size) fun k hk => .inr hk)
  have HX3 : Hid ((w3.alloc (.cells #[.int .i64 0, .int .i64 1] 38)).heap[w3.heap.size]? = some (.cells #[.int .i64 0, .int .i64 1] 38 (0, 0))) := heap_alloc_new w3 _
  clear hT1 hS1 hB1 hA3 hf3 hput h3 H2
  go_wp2_with fail
  obtain ⟨xb, hxb⟩ : ∃ xb, w3.heap.size = xb := ⟨_, rfl⟩
  rw [hxb] at H3 HX3 ⊢
  clear hxb
  revert H3; revert HX3
  generalize w3.alloc (.cells #[.int .i64 0, .int .i64 1] 38) = w4
  intro HX3 H3
  obtain ⟨S1, hT1, hS1, hB1⟩ := H3.out.t
  refine (S.free_hit S1 hb _ 2 _ 0 1 0 { data := #[97] } _ hT1 ⟨rfl, rfl, rfl, rfl⟩).mono ?_
  rintro e w5 ⟨rfl, hA5, hf5⟩
  obtain ⟨h5, hz5⟩ := hB1 _ _ _ hA5 hf5
  have HX5 := Lib.hid ((hz5 xb rfl).trans HX3.out)
  have H5 := Lib.hid h5
  clear hT1 hS1 hB1 hA5 hf5 h5 hz5 H3 HX3
  go_wp2_with fail
  obtain ⟨S1, hT1, hS1, hB1⟩ := H5.out.t
  refine (S.alloc_ok S1 hb _ 2 _ { data := #[98] } _ hT1 hS1 (by decide) (by omega)).mono ?_
  rintro e w6 ⟨i, gn, A', rfl, hput, hA6, hf6⟩
  obtain ⟨rfl, rfl, rfl⟩ := Put.again hput
  obtain ⟨h6, hz6⟩ := hB1 _ _ _ hA6 hf6
  have hx6 := (hz6 xb rfl).trans HX5.out
  have H6 := Lib.hid (h6.box (.cells #[.int .i64 0, .int .i64 2] 38))
  have hyb : xb ≠ w6.heap.size := by have := (Array.getElem?_eq_some_iff.1 hx6).1; omega
  have HX6 : Hid ((w6.alloc (.cells #[.int .i64 0, .int .i64 2] 38)).heap[xb]? = some (.cells #[.int .i64 0, .int .i64 1] 38 (0, 0))) := (Below.heap_alloc _ _ _ (Array.getElem?_eq_some_iff.1 hx6).1).trans hx6
  have HY6 : Hid ((w6.alloc (.cells #[.int .i64 0, .int .i64 2] 38)).heap[w6.heap.size]? = some (.cells #[.int .i64 0, .int .i64 2] 38 (0, 0))) := heap_alloc_new w6 _
  obtain ⟨x0, x1⟩ := pair_cells HX6.out
  clear hT1 hS1 hB1 hA6 hf6 hput h6 hz6 hx6 H5 HX5
  go_wp2_with fail
  obtain ⟨yb, hyb'⟩ : ∃ yb, w6.heap.size = yb := ⟨_, rfl⟩
  rw [hyb'] at H6 HY6 hyb ⊢
  clear hyb'
  revert H6; revert HX6; revert HY6; revert x0; revert x1
  generalize w6.alloc (.cells #[.int .i64 0, .int .i64 2] 38) = w7
  intro x1 x0 HY6 HX6 H6
  obtain ⟨S1, hT1⟩ := H6.out.at_
  have hmiss : ∀ (i : Nat) (s : Slot), ¬ S.Live [⟨true, 1 + 1, [.string { data := #[98] }]⟩] 0 1 i s := by
    rintro i s ⟨h1, h2, h3, h4⟩
    obtain rfl : i = 0 := by omega
    cases h2
    exact absurd h4 (by decide)
  refine (S.get_miss S1 hb _ 2 _ 0 1 _ hT1 hmiss).mono ?_
  rintro e w8 ⟨rfl, hf8⟩
  have H8 := Lib.hid (H6.out.frNo hf8)
  have HX8 := Lib.hid ((hf8.block xb (H6.out.zlt (.inl rfl)) (fun h => h)).trans HX6.out)
  have HY8 := Lib.hid ((hf8.block yb (H6.out.zlt (.inr rfl)) (fun h => h)).trans HY6.out)
  obtain ⟨y0, y1⟩ := pair_cells HY8.out
  clear hT1 hmiss hf8 H6 HX6 HY6 x0 x1
  go_wp2_with fail
  obtain ⟨S1, hT1⟩ := H8.out.at_
  refine (S.get_hit S1 hb _ 2 _ 0 2 0 { data := #[98] } _ hT1 ⟨rfl, rfl, rfl, rfl⟩).mono ?_
  rintro e w9 ⟨rfl, hf9⟩
  have H9 := Lib.hid (H8.out.frNo hf9)
  obtain ⟨x0, x1⟩ := pair_cells ((hf9.block xb (H8.out.zlt (.inl rfl)) (fun h => h)).trans HX8.out)
  obtain ⟨z0, z1⟩ := pair_cells ((hf9.block yb (H8.out.zlt (.inr rfl)) (fun h => h)).trans HY8.out)
  obtain ⟨S2, hT2⟩ := H9.out.at_
  have HT2 := Lib.hid hT2
  clear hT1 hT2 hf9 H8 HX8 HY8 y0 y1
  go_wp2_with (first | (go_at_call 31; refine (S.len_any S2 hb _ 2 _ _ HT2.out).mono ?_; rintro e w10 ⟨rfl, rfl⟩) | (go_at_call 32; refine (S.cap_any S2 hb _ 2 _ _ HT2.out).mono ?_; rintro e w10 ⟨rfl, rfl⟩))
  go_ret
  exact ⟨rfl, fr_base H9.out.fr⟩

end Go.Proofs.Ytgelgnakhghpkaa
