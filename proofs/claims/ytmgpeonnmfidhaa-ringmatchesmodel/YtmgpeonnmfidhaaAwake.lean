/-
  CONTRACT of awake, over this seat's translation: it returns true.
  Conditions: none.
-/
import Derived.Test.YtmgpeonnmfidhaaUno
namespace Go.Proofs.Ytmgpeonnmfidhaa
open Go.ChangeShapes Go.WideShapes Go.ChangeAt Go.RowKit
set_option linter.unusedVariables false

theorem Uno.box {w0 w : World} {Z : Nat → Prop} {hb : Nat} {Q : List Int} {size : Nat} (h : Uno w0 w Z hb Q size) (o : Obj) : Uno w0 (w.alloc o) (fun k => Z k ∨ k = w.heap.size) hb Q size :=
  h.turn (Fr.alloc No w o) (fun k hk => hk.elim) fun k hk => by
    rcases hk with hk | rfl
    · exact .inl hk
    · exact .inr ⟨Nat.le_refl _, by simp⟩

theorem at_two (w : World) (x y : Int) : At (w.alloc (.cells #[.int .i64 x, .int .i64 y] 3)) (some ⟨w.heap.size, 0, none⟩) [x, y] := At.block (xs := [x, y]) (t := 3) (heap_alloc_new w _)

set_option maxHeartbeats 2000000 in
set_option maxRecDepth 100000 in
theorem awake_any (w : World) : Calls Try.prog 8 #[] w fun e w' => e = .returned (.bool true) ∧ Fr No w w' := by
  go_enter Try.func8, Try.ntmps8
  go_wp2_with fail
  refine (new_ok (fun k => w.heap.size ≤ k) 3 _ (by omega) (by omega) (fun k hk => hk)).mono ?_
  rintro e w1 ⟨hb, rfl, hhb, hA1, hf1⟩
  have H1 : Hid (Uno w w1 (fun _ => False) hb [] 3) := (uno_born hA1 (fun k hk => hk) hf1 (Fr.refl _ _)).less fun k hk => hk.elim
  clear hA1 hf1
  go_wp2_with fail
  refine (string_zero _).mono ?_
  rintro e w2 ⟨rfl, hw2⟩
  have H2 : Hid (Uno w (w2.alloc (.cells #[.int .i64 1, .int .i64 2] 3)) (fun k => k = w2.heap.size) hb [] 3) := by rw [hw2]; exact (H1.out.box _).less fun k hk => .inr hk
  have HX := Lib.hid (at_two w2 1 2)
  clear hw2 H1
  go_wp2_with fail
  obtain ⟨S1, hT1, hS1, hZ1, -, hB1⟩ := H2.out.t
  refine (push_any S1 hb [] [1, 2] 3 0 2 2 2 _ _ hT1 hS1 rfl HX.out rfl (by omega) (by omega) (fun h => by cases h) (fun _ ad h => by cases h; exact hZ1 _ rfl) rfl).mono ?_
  rintro e w3 ⟨rfl, hA3, hf3⟩
  have h3 := (hB1 _ _ hA3 hf3).1
  have H3 : Hid (Uno w (w3.alloc (.cells #[.int .i64 3, .int .i64 4] 3)) (fun k => k = w3.heap.size) hb [1, 2] 3) := (h3.box _).less fun k hk => .inr hk
  have HY := Lib.hid (at_two w3 3 4)
  clear hT1 hS1 hZ1 hB1 hA3 hf3 h3 H2 HX
  go_wp2_with fail
  obtain ⟨S1, hT1, hS1, hZ1, -, hB1⟩ := H3.out.t
  refine (push_any S1 hb [1, 2] [3, 4] 3 2 2 2 1 _ _ hT1 hS1 rfl HY.out rfl (by omega) (by omega) (fun h => by cases h) (fun _ ad h => by cases h; exact hZ1 _ rfl) rfl).mono ?_
  rintro e w4 ⟨rfl, hA4, hf4⟩
  have H4 : Hid (Uno w w4 (fun k => False) hb [1, 2, 3] 3) := (hB1 _ _ hA4 hf4).1.less fun k hk => hk.elim
  clear hT1 hS1 hZ1 hB1 hA4 hf4 H3 HY
  go_wp2_with fail
  obtain ⟨S1, hT1, hB1⟩ := H4.out.q
  refine (pop_any S1 hb [1, 2, 3] 3 3 2 2 _ hT1 rfl rfl).mono ?_
  rintro e w5 ⟨pa, pc, rfl, hown, hA5, hf5⟩
  have h5 := (hB1 _ _ hA5 hf5).1
  have H5 : Hid (Uno w (w5.alloc (.cells #[.int .i64 1, .int .i64 2] 3)) (fun k => False) hb [3] 3) := (h5.box _).less fun k hk => hk.elim
  have HP : Hid (At (w5.alloc (.cells #[.int .i64 1, .int .i64 2] 3)) pa [1, 2]) := (At.own (xs := [1, 2]) hown).frNo (Fr.alloc _ _ _)
  have HX := Lib.hid (at_two w5 1 2)
  clear hT1 hB1 hA5 hf5 hown h5 H4
  go_wp2_with fail
  refine (equal_same pa _ 2 pc 2 [1, 2] _ HP.out HX.out rfl (by omega)).mono ?_
  rintro e w6 ⟨rfl, hf6⟩
  have H6 := Lib.hid (H5.out.frNo hf6)
  clear hf6 H5 HP HX
  go_wp2_with fail
  obtain ⟨S1, hT1⟩ := H6.out.at_
  refine (free_any S1 hb [3] 3 1 2 _ hT1 rfl rfl).mono ?_
  rintro e w7 ⟨rfl, hf7⟩
  have H7 := Lib.hid (H6.out.frNo hf7)
  clear hT1 hf7 H6
  obtain ⟨S2, hT2⟩ := H7.out.at_
  have HT2 := Lib.hid hT2
  clear hT2
  go_wp2_with (first | (go_at_call 18; refine (len_any S2 hb _ 3 _ HT2.out).mono ?_; rintro e w10 ⟨rfl, rfl⟩) | (go_at_call 20; refine (cap_any S2 hb _ 3 _ HT2.out).mono ?_; rintro e w10 ⟨rfl, rfl⟩))
  go_ret
  exact ⟨rfl, fr_base H7.out.fr⟩

end Go.Proofs.Ytmgpeonnmfidhaa
