/-
  The law RingDoesNotAlias, walked in two cases: all elements of the slice fit into the ring buffer; some do not.
  Conditions: the slice lies in memory and is not longer than a machine can hold.
-/
import Derived.Test.YtmgpeonnmfidhaaArg
import Derived.Deep.RegionHeld3
namespace Go.Proofs.Ytmgpeonnmfidhaa
open Go.ChangeShapes Go.WideShapes Go.ChangeAt Go.RowKit
set_option linter.unusedVariables false

set_option maxHeartbeats 4000000 in
set_option maxRecDepth 100000 in
theorem alias_all (a0 : Int) (a1 : Option Addr) (n cap1 r0 k : Nat) (zs : List Int) (w : World) (hm0 : ∀ w : World, Calls Try.prog 12 #[.int .i64 a0, .int .i64 30] w fun e w' => e = .returned (.int .i64 r0) ∧ w' = w) (hr0 : r0 < 30) (hk : k = 1 + r0)
    (hx : At w a1 zs) (hl : zs.length = n) (hnc : n ≤ cap1) (hnil : a1 = none → cap1 = 0) (hcap : cap1 * 8 ≤ 140737488351232) (hcase : n ≤ k) :
    Calls Try.prog 6 #[.int .i64 a0, .slice a1 n cap1] w fun e w' => e = .returned (.bool true) ∧ Below w.heap.size w w' := by
  have ek : (1 : Int) + (r0 : Int) = (k : Int) := by omega
  have hk1 : 1 ≤ k := by omega
  have hk30 : k ≤ 30 := by omega
  have hr0' : r0 ≤ 30 := by omega
  obtain ⟨n3, hn3⟩ : ∃ n3, n + 3 = n3 := ⟨_, rfl⟩
  obtain ⟨Y, hY⟩ : ∃ Y, Y = zs.take n := ⟨_, rfl⟩
  have hYl : Y.length = n := by rw [hY, List.length_take, hl]; omega
  have hYx : At w a1 Y := by rw [hY]; exact hx.take _
  have p1 : ¬ ((k : Int) < (n : Int)) := by omega
  have pm : (n : Int) ≤ (cap1 : Int) := by omega
  have pm0 : (0 : Int) ≤ (n : Int) := by omega
  have hmk : n ≤ k := by omega
  have hmn : n ≤ n := by omega
  have hm30 : n ≤ 30 := by omega
  have HS := Lib.hid (And.intro hx (And.intro hl (And.intro hnil (And.intro hn3 (And.intro hY (And.intro hYl hYx))))))
  have HM := Lib.hid hm0
  have hn8 : n * 8 ≤ 140737488351232 := by omega
  have hn44 : n ≤ 17592186043904 := by omega
  have hc44 : cap1 ≤ 17592186043904 := by omega
  clear hx hl hnil hn3 hY hYl hYx hm0 hr0 hk
  go_enter Try.func6, Try.ntmps6
  go_wp2_with fail
  refine (HM.out _).mono ?_
  rintro e wm ⟨rfl, hwm⟩
  have hwm' := hwm.symm
  subst hwm'
  clear hwm
  go_wp2_with fail
  refine (new_ok (fun j => w.heap.size ≤ j) k _ (by omega) (by omega) (fun j hj => hj)).mono ?_
  rintro e w1 ⟨hb, rfl, hhb, hA1, hf1⟩
  have H1 : Hid (Uno w w1 No hb [] k) := (uno_born hA1 (fun j hj => hj) hf1 (Fr.refl _ _)).less fun j hj => hj.elim
  clear hA1 hf1 hhb
  go_wp2_with fail
  refine (spare_any a1 n n3 cap1 zs _ (HS.out.1.old H1.out.fr) HS.out.2.1 HS.out.2.2.1 hn8 HS.out.2.2.2.1).mono ?_
  rintro e w2 ⟨g, c2, rfl, hown2, hf2⟩
  have H2 : Hid (Uno w w2 (fun j => j = g) hb [] k ∧ w2.ownsRow 0 3 1 (.slice (some ⟨g, 0, none⟩) n3 c2) n3 (ints (zs ++ [9, 9, 9]))) :=
    ⟨(H1.out.frNew hf2).less fun j hj => .inr (by rw [hj]; exact hown2.lt g rfl), row_base hown2 (Nat.zero_le _)⟩
  clear hown2 hf2 H1
  have hn3c : n ≤ n3 := by have := HS.out.2.2.2.1; omega
  have hn344 : n3 ≤ 17592186044000 := by have := HS.out.2.2.2.1; omega
  go_wp2_with fail
  obtain ⟨S1, hT1, hS1, hZ1, -, hB1⟩ := H2.out.1.t
  have hAo : At w2 (some ⟨g, 0, none⟩) zs := by
    have h1 := (At.own H2.out.2).take n
    rw [← HS.out.2.1, List.take_left] at h1
    exact h1
  refine (push_any S1 hb [] zs k 0 n n3 n _ _ hT1 hS1 rfl hAo HS.out.2.1 hn3c (by omega) (fun h => by cases h) (fun _ ad h => by cases h; exact hZ1 _ rfl) (by omega)).mono ?_
  rintro e w3 ⟨rfl, hA3, hf3⟩
  rw [List.nil_append, ← HS.out.2.2.2.2.1] at hA3
  obtain ⟨h3, hz3⟩ := hB1 _ _ hA3 hf3
  have H3 : Hid (Uno w w3 (fun j => j = g) hb Y k ∧ w3.ownsRow 0 3 1 (.slice (some ⟨g, 0, none⟩) n3 c2) n3 (ints (zs ++ [9, 9, 9]))) :=
    ⟨h3, row_keep H2.out.2 fun j hj => hz3 j (Option.some.inj hj).symm⟩
  clear hT1 hS1 hZ1 hB1 hA3 hf3 h3 hz3 H2 hAo
  go_wp2_with fail
  refine (unchanged_any _ a1 n n3 cap1 zs _ (At.own H3.out.2) (HS.out.1.old H3.out.1.fr) HS.out.2.1 hn44 HS.out.2.2.2.1).mono ?_
  rintro e w4 ⟨rfl, hf4⟩
  have H4 : Hid (Uno w w4 (fun j => j = g) hb Y k ∧ w4.ownsRow 0 3 1 (.slice (some ⟨g, 0, none⟩) n3 c2) n3 (ints (zs ++ [9, 9, 9]))) := ⟨H3.out.1.frNo hf4, row_frNo H3.out.2 hf4⟩
  clear hf4 H3
  go_wp2_with fail
  refine (overwrite_any _ n n3 _ (Wr.own H4.out.2 hn3c) (by omega)).mono ?_
  rintro e w5 ⟨rfl, hf5⟩
  have H5 : Hid (Uno w w5 No hb Y k) := H4.out.1.turn hf5 (fun j hj => by obtain ⟨ad, h1, h2⟩ := hj; cases h1; exact h2.symm) fun j hj => hj.elim
  clear hf5 H4
  go_wp2_with fail
  obtain ⟨S1, hT1⟩ := H5.out.at_
  refine (peek_any S1 hb Y k n n k _ hT1 HS.out.2.2.2.2.2.1 (by omega)).mono ?_
  rintro e w6 ⟨pa, pc, rfl, hown6, hf6⟩
  have H6 : Hid (Uno w w6 (Blk pa) hb Y k ∧ Wr w6 pa n) := ⟨(H5.out.frNew hf6).less (fun j hj => .inr (hown6.lt j (blk_own.2 hj))), Wr.own hown6 (Nat.le_refl _)⟩
  clear hT1 hown6 hf6 H5
  go_wp2_with fail
  refine (overwrite_any pa n pc _ H6.out.2 (by omega)).mono ?_
  rintro e w7 ⟨rfl, hf7⟩
  have H7 : Hid (Uno w w7 No hb Y k) := H6.out.1.turn hf7 (fun j hj => hj) fun j hj => hj.elim
  clear hf7 H6
  go_wp2_with fail
  obtain ⟨S1, hT1, hB1⟩ := H7.out.q
  refine (pop_any S1 hb Y k n n n _ hT1 HS.out.2.2.2.2.2.1 (by omega)).mono ?_
  rintro e w8 ⟨qa, qc, rfl, hown8, hA8, hf8⟩
  rw [List.take_of_length_le (by have := HS.out.2.2.2.2.2.1; omega)] at hown8
  rw [List.drop_of_length_le (by have := HS.out.2.2.2.2.2.1; omega)] at hA8
  have H8 : Hid (Uno w w8 (Blk qa) hb [] k ∧ w8.ownsRow 0 3 1 (.slice qa n qc) n (ints Y)) :=
    ⟨(hB1 _ _ hA8 hf8).1.less (fun j hj => .inr (hown8.lt j (blk_own.2 hj))), row_base hown8 (Nat.zero_le _)⟩
  clear hT1 hB1 hown8 hA8 hf8 H7
  go_wp2_with fail
  refine (equal_same qa a1 n qc cap1 Y _ (At.own H8.out.2) (HS.out.2.2.2.2.2.2.old H8.out.1.fr) HS.out.2.2.2.2.2.1 (by omega)).mono ?_
  rintro e w9 ⟨rfl, hf9⟩
  have H9 : Hid (Uno w w9 (Blk qa) hb [] k ∧ w9.ownsRow 0 3 1 (.slice qa n qc) n (ints Y)) := ⟨H8.out.1.frNo hf9, row_frNo H8.out.2 hf9⟩
  clear hf9 H8
  go_wp2_with fail
  obtain ⟨S1, hT1, hS1, hZ1, -, hB1⟩ := H9.out.1.t
  refine (push_any S1 hb [] Y k 0 n qc n qa _ hT1 hS1 rfl (At.own H9.out.2) HS.out.2.2.2.2.2.1 (row_cap H9.out.2).1 (row_cap H9.out.2).2.1 (row_cap H9.out.2).2.2 (fun _ ad h => hZ1 _ ⟨ad, h, rfl⟩) (by omega)).mono ?_
  rintro e w10 ⟨rfl, hA10, hf10⟩
  rw [List.nil_append, List.take_of_length_le (by have := HS.out.2.2.2.2.2.1; omega)] at hA10
  obtain ⟨h10, hz10⟩ := hB1 _ _ hA10 hf10
  have H10 : Hid (Uno w w10 (Blk qa) hb Y k ∧ Wr w10 qa n) := ⟨h10, Wr.own (row_keep H9.out.2 fun j hj => hz10 j (blk_own.1 hj)) (Nat.le_refl _)⟩
  clear hT1 hS1 hZ1 hB1 hA10 hf10 h10 hz10 H9
  go_wp2_with fail
  refine (overwrite_any qa n qc _ H10.out.2 (by omega)).mono ?_
  rintro e w11 ⟨rfl, hf11⟩
  have H11 : Hid (Uno w w11 No hb Y k) := H10.out.1.turn hf11 (fun j hj => hj) fun j hj => hj.elim
  clear hf11 H10
  go_wp2_with fail
  go_region_held3 (fun _ => True) (trivial) (first
    | (go_at_call 8; refine (awake_any _).mono ?_; rintro e w12 ⟨rfl, hf12⟩; have H12 := Lib.hid ((H11.out.frNo (Fr.drew No w11)).frNo hf12); clear hf12; obtain ⟨S2, hT2⟩ := H12.out.at_; have HT := Lib.hid hT2; clear hT2)
    | (go_at_call 17; refine (peek_any S2 hb Y k n n n _ HT.out HS.out.2.2.2.2.2.1 (by omega)).mono ?_; rintro e w13 ⟨ra, rc, rfl, hown13, hf13⟩; rw [List.take_of_length_le (by have := HS.out.2.2.2.2.2.1; omega)] at hown13; have H13 := Lib.hid (And.intro (H12.out.frNo hf13) (At.own hown13)); clear hown13 hf13)
    | (go_at_call 15; refine (equal_same ra a1 n rc cap1 Y _ H13.out.2 (HS.out.2.2.2.2.2.2.old H13.out.1.fr) HS.out.2.2.2.2.2.1 (by omega)).mono ?_; rintro e w14 ⟨rfl, hf14⟩; have H14 := Lib.hid (H13.out.1.frNo hf14); clear hf14))
  all_goals (
    go_wp2_with fail
    go_ret
    exact ⟨rfl, H14.out.fr.below (fun j hj => hj) (Nat.le_refl _)⟩)

set_option maxHeartbeats 4000000 in
set_option maxRecDepth 100000 in
theorem alias_part (a0 : Int) (a1 : Option Addr) (n cap1 r0 k : Nat) (zs : List Int) (w : World) (hm0 : ∀ w : World, Calls Try.prog 12 #[.int .i64 a0, .int .i64 30] w fun e w' => e = .returned (.int .i64 r0) ∧ w' = w) (hr0 : r0 < 30) (hk : k = 1 + r0)
    (hx : At w a1 zs) (hl : zs.length = n) (hnc : n ≤ cap1) (hnil : a1 = none → cap1 = 0) (hcap : cap1 * 8 ≤ 140737488351232) (hcase : k < n) :
    Calls Try.prog 6 #[.int .i64 a0, .slice a1 n cap1] w fun e w' => e = .returned (.bool true) ∧ Below w.heap.size w w' := by
  have ek : (1 : Int) + (r0 : Int) = (k : Int) := by omega
  have hk1 : 1 ≤ k := by omega
  have hk30 : k ≤ 30 := by omega
  have hr0' : r0 ≤ 30 := by omega
  obtain ⟨n3, hn3⟩ : ∃ n3, n + 3 = n3 := ⟨_, rfl⟩
  obtain ⟨Y, hY⟩ : ∃ Y, Y = zs.take k := ⟨_, rfl⟩
  have hYl : Y.length = k := by rw [hY, List.length_take, hl]; omega
  have hYx : At w a1 Y := by rw [hY]; exact hx.take _
  have p1 : (k : Int) < (n : Int) := by omega
  have pm : (k : Int) ≤ (cap1 : Int) := by omega
  have pm0 : (0 : Int) ≤ (k : Int) := by omega
  have hmk : k ≤ k := by omega
  have hmn : k ≤ n := by omega
  have hm30 : k ≤ 30 := by omega
  have HS := Lib.hid (And.intro hx (And.intro hl (And.intro hnil (And.intro hn3 (And.intro hY (And.intro hYl hYx))))))
  have HM := Lib.hid hm0
  have hn8 : n * 8 ≤ 140737488351232 := by omega
  have hn44 : n ≤ 17592186043904 := by omega
  have hc44 : cap1 ≤ 17592186043904 := by omega
  clear hx hl hnil hn3 hY hYl hYx hm0 hr0 hk
  go_enter Try.func6, Try.ntmps6
  go_wp2_with fail
  refine (HM.out _).mono ?_
  rintro e wm ⟨rfl, hwm⟩
  have hwm' := hwm.symm
  subst hwm'
  clear hwm
  go_wp2_with fail
  refine (new_ok (fun j => w.heap.size ≤ j) k _ (by omega) (by omega) (fun j hj => hj)).mono ?_
  rintro e w1 ⟨hb, rfl, hhb, hA1, hf1⟩
  have H1 : Hid (Uno w w1 No hb [] k) := (uno_born hA1 (fun j hj => hj) hf1 (Fr.refl _ _)).less fun j hj => hj.elim
  clear hA1 hf1 hhb
  go_wp2_with fail
  refine (spare_any a1 n n3 cap1 zs _ (HS.out.1.old H1.out.fr) HS.out.2.1 HS.out.2.2.1 hn8 HS.out.2.2.2.1).mono ?_
  rintro e w2 ⟨g, c2, rfl, hown2, hf2⟩
  have H2 : Hid (Uno w w2 (fun j => j = g) hb [] k ∧ w2.ownsRow 0 3 1 (.slice (some ⟨g, 0, none⟩) n3 c2) n3 (ints (zs ++ [9, 9, 9]))) :=
    ⟨(H1.out.frNew hf2).less fun j hj => .inr (by rw [hj]; exact hown2.lt g rfl), row_base hown2 (Nat.zero_le _)⟩
  clear hown2 hf2 H1
  have hn3c : n ≤ n3 := by have := HS.out.2.2.2.1; omega
  have hn344 : n3 ≤ 17592186044000 := by have := HS.out.2.2.2.1; omega
  go_wp2_with fail
  obtain ⟨S1, hT1, hS1, hZ1, -, hB1⟩ := H2.out.1.t
  have hAo : At w2 (some ⟨g, 0, none⟩) zs := by
    have h1 := (At.own H2.out.2).take n
    rw [← HS.out.2.1, List.take_left] at h1
    exact h1
  refine (push_any S1 hb [] zs k 0 n n3 k _ _ hT1 hS1 rfl hAo HS.out.2.1 hn3c (by omega) (fun h => by cases h) (fun _ ad h => by cases h; exact hZ1 _ rfl) (by omega)).mono ?_
  rintro e w3 ⟨rfl, hA3, hf3⟩
  rw [List.nil_append, ← HS.out.2.2.2.2.1] at hA3
  obtain ⟨h3, hz3⟩ := hB1 _ _ hA3 hf3
  have H3 : Hid (Uno w w3 (fun j => j = g) hb Y k ∧ w3.ownsRow 0 3 1 (.slice (some ⟨g, 0, none⟩) n3 c2) n3 (ints (zs ++ [9, 9, 9]))) :=
    ⟨h3, row_keep H2.out.2 fun j hj => hz3 j (Option.some.inj hj).symm⟩
  clear hT1 hS1 hZ1 hB1 hA3 hf3 h3 hz3 H2 hAo
  go_wp2_with fail
  refine (unchanged_any _ a1 n n3 cap1 zs _ (At.own H3.out.2) (HS.out.1.old H3.out.1.fr) HS.out.2.1 hn44 HS.out.2.2.2.1).mono ?_
  rintro e w4 ⟨rfl, hf4⟩
  have H4 : Hid (Uno w w4 (fun j => j = g) hb Y k ∧ w4.ownsRow 0 3 1 (.slice (some ⟨g, 0, none⟩) n3 c2) n3 (ints (zs ++ [9, 9, 9]))) := ⟨H3.out.1.frNo hf4, row_frNo H3.out.2 hf4⟩
  clear hf4 H3
  go_wp2_with fail
  refine (overwrite_any _ n n3 _ (Wr.own H4.out.2 hn3c) (by omega)).mono ?_
  rintro e w5 ⟨rfl, hf5⟩
  have H5 : Hid (Uno w w5 No hb Y k) := H4.out.1.turn hf5 (fun j hj => by obtain ⟨ad, h1, h2⟩ := hj; cases h1; exact h2.symm) fun j hj => hj.elim
  clear hf5 H4
  go_wp2_with fail
  obtain ⟨S1, hT1⟩ := H5.out.at_
  refine (peek_any S1 hb Y k k k k _ hT1 HS.out.2.2.2.2.2.1 (by omega)).mono ?_
  rintro e w6 ⟨pa, pc, rfl, hown6, hf6⟩
  have H6 : Hid (Uno w w6 (Blk pa) hb Y k ∧ Wr w6 pa k) := ⟨(H5.out.frNew hf6).less (fun j hj => .inr (hown6.lt j (blk_own.2 hj))), Wr.own hown6 (Nat.le_refl _)⟩
  clear hT1 hown6 hf6 H5
  go_wp2_with fail
  refine (overwrite_any pa k pc _ H6.out.2 (by omega)).mono ?_
  rintro e w7 ⟨rfl, hf7⟩
  have H7 : Hid (Uno w w7 No hb Y k) := H6.out.1.turn hf7 (fun j hj => hj) fun j hj => hj.elim
  clear hf7 H6
  go_wp2_with fail
  obtain ⟨S1, hT1, hB1⟩ := H7.out.q
  refine (pop_any S1 hb Y k k k k _ hT1 HS.out.2.2.2.2.2.1 (by omega)).mono ?_
  rintro e w8 ⟨qa, qc, rfl, hown8, hA8, hf8⟩
  rw [List.take_of_length_le (by have := HS.out.2.2.2.2.2.1; omega)] at hown8
  rw [List.drop_of_length_le (by have := HS.out.2.2.2.2.2.1; omega)] at hA8
  have H8 : Hid (Uno w w8 (Blk qa) hb [] k ∧ w8.ownsRow 0 3 1 (.slice qa k qc) k (ints Y)) :=
    ⟨(hB1 _ _ hA8 hf8).1.less (fun j hj => .inr (hown8.lt j (blk_own.2 hj))), row_base hown8 (Nat.zero_le _)⟩
  clear hT1 hB1 hown8 hA8 hf8 H7
  go_wp2_with fail
  refine (equal_same qa a1 k qc cap1 Y _ (At.own H8.out.2) (HS.out.2.2.2.2.2.2.old H8.out.1.fr) HS.out.2.2.2.2.2.1 (by omega)).mono ?_
  rintro e w9 ⟨rfl, hf9⟩
  have H9 : Hid (Uno w w9 (Blk qa) hb [] k ∧ w9.ownsRow 0 3 1 (.slice qa k qc) k (ints Y)) := ⟨H8.out.1.frNo hf9, row_frNo H8.out.2 hf9⟩
  clear hf9 H8
  go_wp2_with fail
  obtain ⟨S1, hT1, hS1, hZ1, -, hB1⟩ := H9.out.1.t
  refine (push_any S1 hb [] Y k 0 k qc k qa _ hT1 hS1 rfl (At.own H9.out.2) HS.out.2.2.2.2.2.1 (row_cap H9.out.2).1 (row_cap H9.out.2).2.1 (row_cap H9.out.2).2.2 (fun _ ad h => hZ1 _ ⟨ad, h, rfl⟩) (by omega)).mono ?_
  rintro e w10 ⟨rfl, hA10, hf10⟩
  rw [List.nil_append, List.take_of_length_le (by have := HS.out.2.2.2.2.2.1; omega)] at hA10
  obtain ⟨h10, hz10⟩ := hB1 _ _ hA10 hf10
  have H10 : Hid (Uno w w10 (Blk qa) hb Y k ∧ Wr w10 qa k) := ⟨h10, Wr.own (row_keep H9.out.2 fun j hj => hz10 j (blk_own.1 hj)) (Nat.le_refl _)⟩
  clear hT1 hS1 hZ1 hB1 hA10 hf10 h10 hz10 H9
  go_wp2_with fail
  refine (overwrite_any qa k qc _ H10.out.2 (by omega)).mono ?_
  rintro e w11 ⟨rfl, hf11⟩
  have H11 : Hid (Uno w w11 No hb Y k) := H10.out.1.turn hf11 (fun j hj => hj) fun j hj => hj.elim
  clear hf11 H10
  go_wp2_with fail
  go_region_held3 (fun _ => True) (trivial) (first
    | (go_at_call 8; refine (awake_any _).mono ?_; rintro e w12 ⟨rfl, hf12⟩; have H12 := Lib.hid ((H11.out.frNo (Fr.drew No w11)).frNo hf12); clear hf12; obtain ⟨S2, hT2⟩ := H12.out.at_; have HT := Lib.hid hT2; clear hT2)
    | (go_at_call 17; refine (peek_any S2 hb Y k k k k _ HT.out HS.out.2.2.2.2.2.1 (by omega)).mono ?_; rintro e w13 ⟨ra, rc, rfl, hown13, hf13⟩; rw [List.take_of_length_le (by have := HS.out.2.2.2.2.2.1; omega)] at hown13; have H13 := Lib.hid (And.intro (H12.out.frNo hf13) (At.own hown13)); clear hown13 hf13)
    | (go_at_call 15; refine (equal_same ra a1 k rc cap1 Y _ H13.out.2 (HS.out.2.2.2.2.2.2.old H13.out.1.fr) HS.out.2.2.2.2.2.1 (by omega)).mono ?_; rintro e w14 ⟨rfl, hf14⟩; have H14 := Lib.hid (H13.out.1.frNo hf14); clear hf14))
  all_goals (
    go_wp2_with fail
    go_ret
    exact ⟨rfl, H14.out.fr.below (fun j hj => hj) (Nat.le_refl _)⟩)

end Go.Proofs.Ytmgpeonnmfidhaa
