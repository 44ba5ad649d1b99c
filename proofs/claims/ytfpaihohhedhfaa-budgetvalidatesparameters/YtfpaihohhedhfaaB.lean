/-
  A budget in memory, the program's and the reference's; CONTRACTS of Window, New, ValidBudget, Used, Window, enter, left, Remaining and Charge and of the reference's Window, Remaining and Charge, over this seat's translation: what each call returns, what it leaves in memory.
  Conditions: integer arguments lie in their kind's range; the width is at least 1; the budget lies in memory as Bd or Rf says.
-/
import Derived.Test.YtfpaihohhedhfaaA
namespace Go.Proofs.Ytfpaihohhedhfaa
open Go.ChangeShapes Go.WideShapes Go.ChangeAt Go.RowKit
set_option linter.unusedVariables false

/-- What an unsigned number is below. -/
def U64 (n : Int) : Prop := 0 ≤ n ∧ n ≤ 18446744073709551615

theorem div_u64 {a b : Int} (ha : U64 a) (hb : 1 ≤ b) : U64 (a / b) :=
  ⟨Int.ediv_nonneg ha.1 (by omega), Int.le_trans (Int.ediv_le_self _ ha.1) ha.2⟩

/-- The window behind a charge, and how many were used of it before. -/
def cw (q c : Int) : Int := if c < q then q else c
def cu (q c u : Int) : Int := if c < q then 0 else u
/-- Whether a charge succeeds, and how many are used behind it. -/
def ch (q c u l : Int) : Bool := decide (cu q c u ≠ l)
def nu (q c u l : Int) : Int := if cu q c u = l then cu q c u else cu q c u + 1

/-- A budget in memory. -/
def Bd (w : World) (x : Nat) (l wd c u : Int) : Prop := w.heap[x]? = some (.cells #[.int .i64 l, .int .u64 wd, .int .u64 c, .int .i64 u] 42 (0, 0))
/-- The reference's. -/
def Rf (w : World) (x : Nat) (l wd c u : Int) : Prop := w.heap[x]? = some (.cells #[.int .i64 l, .int .u64 wd, .int .u64 c, .int .i64 u] 36 (0, 0))

section
variable {w w' : World} {x : Nat} {l wd c u : Int}
theorem Bd.lt (h : Bd w x l wd c u) : x < w.heap.size := (Array.getElem?_eq_some_iff.1 h).1
theorem Rf.lt (h : Rf w x l wd c u) : x < w.heap.size := (Array.getElem?_eq_some_iff.1 h).1
theorem Bd.no (h : Bd w x l wd c u) (hf : Fr No w w') : Bd w' x l wd c u := hf.keep h
theorem Rf.no (h : Rf w x l wd c u) (hf : Fr No w w') : Rf w' x l wd c u := hf.keep h
theorem Bd.at_ {S : Nat → Prop} (h : Bd w x l wd c u) (hf : Fr S w w') (hS : ¬ S x) : Bd w' x l wd c u := (hf.block x h.lt hS).trans h
theorem Rf.at_ {S : Nat → Prop} (h : Rf w x l wd c u) (hf : Fr S w w') (hS : ¬ S x) : Rf w' x l wd c u := (hf.block x h.lt hS).trans h
theorem Bd.cells (h : Bd w x l wd c u) : w.cell? ⟨x, 0, none⟩ = some (.int .i64 l) ∧ w.cell? ⟨x, 1, none⟩ = some (.int .u64 wd) ∧ w.cell? ⟨x, 2, none⟩ = some (.int .u64 c) ∧ w.cell? ⟨x, 3, none⟩ = some (.int .i64 u) := by
  refine ⟨?_, ?_, ?_, ?_⟩ <;> rw [cell_of_row w x _ _ _ _ h] <;> rfl
theorem Rf.cells (h : Rf w x l wd c u) : w.cell? ⟨x, 0, none⟩ = some (.int .i64 l) ∧ w.cell? ⟨x, 1, none⟩ = some (.int .u64 wd) ∧ w.cell? ⟨x, 2, none⟩ = some (.int .u64 c) ∧ w.cell? ⟨x, 3, none⟩ = some (.int .i64 u) := by
  refine ⟨?_, ?_, ?_, ?_⟩ <;> rw [cell_of_row w x _ _ _ _ h] <;> rfl
theorem Bd.frozen (h : Bd w x l wd c u) (j : Nat) : w.frozen? ⟨x, j, none⟩ = false := frozen_of_row w x j _ _ h
theorem Rf.frozen (h : Rf w x l wd c u) (j : Nat) : w.frozen? ⟨x, j, none⟩ = false := frozen_of_row w x j _ _ h
theorem Bd.setW (h : Bd w x l wd c u) (c' : Int) : Bd (w.setCell ⟨x, 2, none⟩ (.int .u64 c')) x l wd c' u := by
  unfold Bd; rw [heap_setCell_same w x 2 _ _ _ h]; rfl
theorem Bd.setU (h : Bd w x l wd c u) (u' : Int) : Bd (w.setCell ⟨x, 3, none⟩ (.int .i64 u')) x l wd c u' := by
  unfold Bd; rw [heap_setCell_same w x 3 _ _ _ h]; rfl
theorem Rf.setW (h : Rf w x l wd c u) (c' : Int) : Rf (w.setCell ⟨x, 2, none⟩ (.int .u64 c')) x l wd c' u := by
  unfold Rf; rw [heap_setCell_same w x 2 _ _ _ h]; rfl
theorem Rf.setU (h : Rf w x l wd c u) (u' : Int) : Rf (w.setCell ⟨x, 3, none⟩ (.int .i64 u')) x l wd c u' := by
  unfold Rf; rw [heap_setCell_same w x 3 _ _ _ h]; rfl
end

theorem Fr.set1 (w : World) (x j : Nat) (v : Value) : Fr (fun k => k = x) w (w.setCell ⟨x, j, none⟩ v) := Fr.setCell _ _ _ _ rfl

/-! ### windows -/

theorem window_any (a b q : Int) (w : World) (ha : U64 a) (hb : 1 ≤ b) (hq : a / b = q) :
    Calls Try.prog 20 #[.int .u64 a, .int .u64 b] w fun e w' => e = .returned (.int .u64 q) ∧ w = w' := by
  obtain ⟨ha0, ha1⟩ := ha
  subst hq
  go_enter Try.func20, Try.ntmps20
  go_wp2
  go_ret
  exact ⟨rfl, rfl⟩
theorem windowR_any (a b q : Int) (w : World) (ha : U64 a) (hb : 1 ≤ b) (hq : a / b = q) :
    Calls Try.prog 19 #[.int .u64 a, .int .u64 b] w fun e w' => e = .returned (.int .u64 q) ∧ w = w' := by
  obtain ⟨ha0, ha1⟩ := ha
  subst hq
  go_enter Try.func19, Try.ntmps19
  go_wp2
  go_ret
  exact ⟨rfl, rfl⟩

/-! ### the program's -/

/-- What New accepts. -/
def okB (n wd : Int) : Bool := decide (0 ≤ n ∧ n ≤ 1000 ∧ 1 ≤ wd ∧ wd ≤ 1099511627776)

theorem new_yes (n wd : Int) (w : World) (h : 0 ≤ n ∧ n ≤ 1000 ∧ 1 ≤ wd ∧ wd ≤ 1099511627776) :
    Calls Try.prog 7 #[.int .i64 n, .int .u64 wd] w fun e w' => (∃ x, e = .returned (.tuple #[.pointer (some ⟨x, 0, none⟩), .int .i64 0]) ∧ w.heap.size ≤ x ∧ Bd w' x n wd 0 0) ∧ Fr No w w' := by
  obtain ⟨h0, h1, h2, h3⟩ := h
  have p0 : ¬ n < 0 := by omega
  have p1 : ¬ 1000 < n := by omega
  have p2 : ¬ wd < 1 := by omega
  have p3 : ¬ 1099511627776 < wd := by omega
  go_enter Try.func7, Try.ntmps7
  go_wp2
  go_ret2
  exact ⟨⟨w.heap.size, rfl, Nat.le_refl _, heap_alloc_new w _⟩, Fr.alloc _ _ _⟩

theorem new_no (n wd : Int) (w : World) (hn : -9223372036854775808 ≤ n ∧ n ≤ 9223372036854775807) (hw : U64 wd) (h : ¬ (0 ≤ n ∧ n ≤ 1000 ∧ 1 ≤ wd ∧ wd ≤ 1099511627776)) :
    Calls Try.prog 7 #[.int .i64 n, .int .u64 wd] w fun e w' => e = .returned (.tuple #[.pointer none, .int .i64 1]) ∧ w' = w := by
  obtain ⟨hw0, hw1⟩ := hw
  by_cases h0 : n < 0
  · go_enter Try.func7, Try.ntmps7
    go_wp2
    go_ret2
    exact ⟨rfl, rfl⟩
  · by_cases h1 : 1000 < n
    · go_enter Try.func7, Try.ntmps7
      go_wp2
      go_ret2
      exact ⟨rfl, rfl⟩
    · by_cases h2 : wd < 1
      · go_enter Try.func7, Try.ntmps7
        go_wp2
        go_ret2
        exact ⟨rfl, rfl⟩
      · have h3 : 1099511627776 < wd := by omega
        go_enter Try.func7, Try.ntmps7
        go_wp2
        go_ret2
        exact ⟨rfl, rfl⟩

theorem valid_any (n wd : Int) (w : World) (hn : -9223372036854775808 ≤ n ∧ n ≤ 9223372036854775807) (hw : U64 wd) :
    Calls Try.prog 8 #[.int .i64 n, .int .u64 wd] w fun e w' => e = .returned (.bool (okB n wd)) ∧ w' = w := by
  obtain ⟨hw0, hw1⟩ := hw
  by_cases h0 : 0 ≤ n
  · by_cases h1 : n ≤ 1000
    · by_cases h2 : 1 ≤ wd
      · by_cases h3 : wd ≤ 1099511627776
        · have e : okB n wd = true := by unfold okB; rw [decide_eq_true_iff]; omega
          rw [e]
          clear e
          go_enter Try.func8, Try.ntmps8
          go_wp2
          go_ret
          exact ⟨rfl, rfl⟩
        · have e : okB n wd = false := by unfold okB; rw [decide_eq_false_iff_not]; omega
          rw [e]
          clear e
          go_enter Try.func8, Try.ntmps8
          go_wp2
          go_ret
          exact ⟨rfl, rfl⟩
      · have e : okB n wd = false := by unfold okB; rw [decide_eq_false_iff_not]; omega
        rw [e]
        clear e
        go_enter Try.func8, Try.ntmps8
        go_wp2
        go_ret
        exact ⟨rfl, rfl⟩
    · have e : okB n wd = false := by unfold okB; rw [decide_eq_false_iff_not]; omega
      rw [e]
      clear e
      go_enter Try.func8, Try.ntmps8
      go_wp2
      go_ret
      exact ⟨rfl, rfl⟩
  · have e : okB n wd = false := by unfold okB; rw [decide_eq_false_iff_not]; omega
    rw [e]
    clear e
    go_enter Try.func8, Try.ntmps8
    go_wp2
    go_ret
    exact ⟨rfl, rfl⟩

theorem used_any (x : Nat) (l wd c u : Int) (w : World) (h : Bd w x l wd c u) :
    Calls Try.prog 10 #[.pointer (some ⟨x, 0, none⟩)] w fun e w' => e = .returned (.int .i64 u) ∧ w' = w := by
  obtain ⟨c0, c1, c2, c3⟩ := h.cells
  clear h
  go_enter Try.func10, Try.ntmps10
  go_wp2
  go_ret
  exact ⟨rfl, rfl⟩
theorem win_any (x : Nat) (l wd c u : Int) (w : World) (h : Bd w x l wd c u) :
    Calls Try.prog 11 #[.pointer (some ⟨x, 0, none⟩)] w fun e w' => e = .returned (.int .u64 c) ∧ w' = w := by
  obtain ⟨c0, c1, c2, c3⟩ := h.cells
  clear h
  go_enter Try.func11, Try.ntmps11
  go_wp2
  go_ret
  exact ⟨rfl, rfl⟩
theorem left_any (x : Nat) (l wd c u r : Int) (w : World) (h : Bd w x l wd c u) (hr : l - u = r) (hr0 : 0 ≤ r) (hr1 : r ≤ 1000) :
    Calls Try.prog 18 #[.pointer (some ⟨x, 0, none⟩)] w fun e w' => e = .returned (.int .i64 r) ∧ Fr No w w' := by
  obtain ⟨c0, c1, c2, c3⟩ := h.cells
  clear h
  go_enter Try.func18, Try.ntmps18
  go_wp2_with fail
  go_quiet (fail)
  go_wp2_with fail
  go_ret
  exact ⟨rfl, Fr.drewN _ _ _⟩

set_option maxHeartbeats 1000000 in
theorem enter_any (x : Nat) (l wd c u a q c' u' : Int) (w : World) (h : Bd w x l wd c u) (ha : U64 a) (hw : 1 ≤ wd) (hq : a / wd = q) (hc : cw q c = c') (hu : cu q c u = u') :
    Calls Try.prog 17 #[.pointer (some ⟨x, 0, none⟩), .int .u64 a] w fun e w' => e = .returned (.tuple #[]) ∧ Bd w' x l wd c' u' ∧ Fr (fun k => k = x) w w' := by
  obtain ⟨c0, c1, c2, c3⟩ := h.cells
  have f2 := h.frozen 2
  have f3 := h.frozen 3
  have HB := Lib.hid h
  have HQ := Lib.hid (And.intro ha (And.intro hw hq))
  by_cases hlt : c < q
  · have e1 : c' = q := by rw [← hc, cw, if_pos hlt]
    have e2 : u' = 0 := by rw [← hu, cu, if_pos hlt]
    subst e1 e2
    clear h ha hw hq hc hu
    go_enter Try.func17, Try.ntmps17
    go_wp2_with fail
    refine (window_any a wd c' _ HQ.out.1 HQ.out.2.1 HQ.out.2.2).mono ?_
    rintro e w1 ⟨rfl, hw1⟩
    subst hw1
    go_wp2_with fail
    go_end0
    exact ⟨rfl, (HB.out.setW _).setU _, (Fr.set1 _ _ _ _).trans (Fr.set1 _ _ _ _)⟩
  · have e1 : c' = c := by rw [← hc, cw, if_neg hlt]
    have e2 : u' = u := by rw [← hu, cu, if_neg hlt]
    subst e1 e2
    clear h ha hw hq hc hu
    go_enter Try.func17, Try.ntmps17
    go_wp2_with fail
    refine (window_any a wd q _ HQ.out.1 HQ.out.2.1 HQ.out.2.2).mono ?_
    rintro e w1 ⟨rfl, hw1⟩
    subst hw1
    go_wp2_with fail
    go_end0
    exact ⟨rfl, HB.out, Fr.refl _ _⟩

theorem charge_step (q c u l : Int) (hu : u ≤ l) (h0 : 0 ≤ u) : 0 ≤ cu q c u ∧ cu q c u ≤ u ∧ nu q c u l ≤ l ∧ 0 ≤ nu q c u l := by
  unfold nu cu; split <;> split <;> omega

set_option maxHeartbeats 1000000 in
theorem charge_any (x : Nat) (l wd c u a q c' u' : Int) (v : Bool) (w : World) (h : Bd w x l wd c u) (hl : l ≤ 1000) (h0 : 0 ≤ u) (hul : u ≤ l) (ha : U64 a) (hw : 1 ≤ wd) (hq : a / wd = q) (hc : cw q c = c') (hu : nu q c u l = u') (hv : ch q c u l = v) :
    Calls Try.prog 15 #[.pointer (some ⟨x, 0, none⟩), .int .u64 a] w fun e w' => e = .returned (.bool v) ∧ Bd w' x l wd c' u' ∧ Fr (fun k => k = x) w w' := by
  obtain ⟨k, hk⟩ : ∃ k, cu q c u = k := ⟨_, rfl⟩
  obtain ⟨r, hr⟩ : ∃ r, l - k = r := ⟨_, rfl⟩
  have hs := charge_step q c u l hul h0
  rw [hk] at hs
  have HE := Lib.hid (And.intro h (And.intro ha (And.intro hw (And.intro hq (And.intro hc hk)))))
  have HR := Lib.hid (show l - k = r ∧ 0 ≤ r ∧ r ≤ 1000 by omega)
  by_cases hkl : k = l
  · have e1 : u' = k := by rw [← hu, nu, hk, if_pos hkl]
    have e2 : v = false := by rw [← hv, ch, hk, decide_eq_false_iff_not]; exact fun h => h hkl
    have e3 : r = 0 := by omega
    subst e1 e2 e3
    clear h ha hw hq hc hu hv hk hr hs hkl hl h0 hul
    go_enter Try.func15, Try.ntmps15
    go_wp2_with fail
    refine (enter_any x l wd c u a q c' u' _ HE.out.1 HE.out.2.1 HE.out.2.2.1 HE.out.2.2.2.1 HE.out.2.2.2.2.1 HE.out.2.2.2.2.2).mono ?_
    rintro e w1 ⟨rfl, hb1, hf1⟩
    go_wp2_with fail
    refine (left_any x l wd c' u' 0 _ hb1 HR.out.1 HR.out.2.1 HR.out.2.2).mono ?_
    rintro e w2 ⟨rfl, hf2⟩
    have H2 := Lib.hid (And.intro (hb1.no hf2) (hf1.trans hf2.no))
    clear hb1 hf1 hf2
    go_wp2_with fail
    go_ret
    exact ⟨rfl, H2.out⟩
  · have e1 : u' = k + 1 := by rw [← hu, nu, hk, if_neg hkl]
    have e2 : v = true := by rw [← hv, ch, hk, decide_eq_true_iff]; exact hkl
    have e3 : ¬ r = 0 := by omega
    have e4 : -9223372036854775808 ≤ k + 1 ∧ k + 1 ≤ 9223372036854775807 := by omega
    obtain ⟨e40, e41⟩ := e4
    have HK := Lib.hid e1
    subst e2
    clear h ha hw hq hc hu hv hk hr hs hkl hl h0 hul e1
    go_enter Try.func15, Try.ntmps15
    go_wp2_with fail
    refine (enter_any x l wd c u a q c' k _ HE.out.1 HE.out.2.1 HE.out.2.2.1 HE.out.2.2.2.1 HE.out.2.2.2.2.1 HE.out.2.2.2.2.2).mono ?_
    rintro e w1 ⟨rfl, hb1, hf1⟩
    go_wp2_with fail
    refine (left_any x l wd c' k r _ hb1 HR.out.1 HR.out.2.1 HR.out.2.2).mono ?_
    rintro e w2 ⟨rfl, hf2⟩
    have H2 := Lib.hid (And.intro (hb1.no hf2) (hf1.trans hf2.no))
    obtain ⟨c0, c1, c2, c3⟩ := H2.out.1.cells
    have f3 := H2.out.1.frozen 3
    clear hb1 hf1 hf2 c0 c1 c2
    go_wp2_with fail
    go_ret
    exact ⟨rfl, by rw [HK.out]; exact H2.out.1.setU _, H2.out.2.trans (Fr.set1 _ _ _ _)⟩

set_option maxHeartbeats 1000000 in
theorem rem_any (x : Nat) (l wd c u a q r : Int) (w : World) (h : Bd w x l wd c u) (hl : l ≤ 1000) (h0 : 0 ≤ u) (hul : u ≤ l) (ha : U64 a) (hw : 1 ≤ wd) (hq : a / wd = q) (hr : l - cu q c u = r) :
    Calls Try.prog 12 #[.pointer (some ⟨x, 0, none⟩), .int .u64 a] w fun e w' => e = .returned (.int .i64 r) ∧ Fr No w w' := by
  obtain ⟨c0, c1, c2, c3⟩ := h.cells
  obtain ⟨k, hk⟩ : ∃ k, cu q c u = k := ⟨_, rfl⟩
  obtain ⟨m, hm⟩ : ∃ m, cw q c = m := ⟨_, rfl⟩
  have hs := charge_step q c u l hul h0
  rw [hk] at hs hr
  have HE := Lib.hid (And.intro h (And.intro ha (And.intro hw (And.intro hq (And.intro hm hk)))))
  have HR := Lib.hid (show l - k = r ∧ 0 ≤ r ∧ r ≤ 1000 by omega)
  clear h ha hw hq hm hk hr hs hl h0 hul
  go_enter Try.func12, Try.ntmps12
  go_wp2_with fail
  have hb0 : Bd (w.alloc (.cells #[.int .i64 l, .int .u64 wd, .int .u64 c, .int .i64 u] 42)) w.heap.size l wd c u := heap_alloc_new w _
  refine (enter_any w.heap.size l wd c u a q m k _ hb0 HE.out.2.1 HE.out.2.2.1 HE.out.2.2.2.1 HE.out.2.2.2.2.1 HE.out.2.2.2.2.2).mono ?_
  rintro e w1 ⟨rfl, hb1, hf1⟩
  have H1 := Lib.hid (And.intro hb1 ((Fr.alloc No w _).ofNew hf1 fun j hj => .inr (Nat.le_of_eq hj.symm)))
  clear hb0 hb1 hf1
  go_wp2_with fail
  refine (left_any _ l wd m k r _ H1.out.1 HR.out.1 HR.out.2.1 HR.out.2.2).mono ?_
  rintro e w2 ⟨rfl, hf2⟩
  have H2 := Lib.hid hf2
  clear hf2
  go_wp2_with fail
  go_ret
  exact ⟨rfl, H1.out.2.trans H2.out⟩

/-! ### the reference's -/

set_option maxHeartbeats 1000000 in
theorem remR_any (x : Nat) (l wd c u a q r : Int) (w : World) (h : Rf w x l wd c u) (hl : l ≤ 1000) (h0 : 0 ≤ u) (hul : u ≤ l) (ha : U64 a) (hw : 1 ≤ wd) (hq : a / wd = q) (hr : l - cu q c u = r) :
    Calls Try.prog 14 #[.pointer (some ⟨x, 0, none⟩), .int .u64 a] w fun e w' => e = .returned (.int .i64 r) ∧ Fr No w w' := by
  obtain ⟨c0, c1, c2, c3⟩ := h.cells
  have HQ := Lib.hid (And.intro ha (And.intro hw hq))
  by_cases hlt : c < q
  · have e1 : l = r := by rw [cu, if_pos hlt] at hr; omega
    subst e1
    have hd : decide (c < q) = true := decide_eq_true hlt
    clear h ha hw hq hr hl h0 hul
    go_enter Try.func14, Try.ntmps14
    go_wp2_with fail
    go_quiet (refine Calls.quiet_of_same ((windowR_any a wd _ _ HQ.out.1 HQ.out.2.1 HQ.out.2.2).mono (fun e w' h => ⟨h.1, h.2.symm⟩)))
    go_wp2_with fail
    go_ret
    exact ⟨rfl, Fr.drewN _ _ _⟩
  · have e1 : l - u = r := by rw [cu, if_neg hlt] at hr; exact hr
    have hd : decide (c < q) = false := decide_eq_false hlt
    have b1 : 0 ≤ r := by omega
    have b2 : r ≤ 1000 := by omega
    clear h ha hw hq hr hl h0 hul
    go_enter Try.func14, Try.ntmps14
    go_wp2_with fail
    go_quiet (refine Calls.quiet_of_same ((windowR_any a wd _ _ HQ.out.1 HQ.out.2.1 HQ.out.2.2).mono (fun e w' h => ⟨h.1, h.2.symm⟩)))
    go_wp2_with fail
    go_quiet (fail)
    go_wp2_with fail
    go_ret
    exact ⟨rfl, (Fr.drewN _ _ _).trans (Fr.drewN _ _ _)⟩

set_option maxHeartbeats 1000000 in
theorem chargeR_any (x : Nat) (l wd c u a q c' u' : Int) (v : Bool) (w : World) (h : Rf w x l wd c u) (hl : l ≤ 1000) (h0 : 0 ≤ u) (hul : u ≤ l) (ha : U64 a) (hw : 1 ≤ wd) (hq : a / wd = q) (hc : cw q c = c') (hu : nu q c u l = u') (hv : ch q c u l = v) :
    Calls Try.prog 16 #[.pointer (some ⟨x, 0, none⟩), .int .u64 a] w fun e w' => e = .returned (.bool v) ∧ Rf w' x l wd c' u' ∧ Fr (fun k => k = x) w w' := by
  obtain ⟨c0, c1, c2, c3⟩ := h.cells
  have f2 := h.frozen 2
  have f3 := h.frozen 3
  have HB := Lib.hid h
  have HQ := Lib.hid (And.intro ha (And.intro hw hq))
  by_cases hlt : c < q
  · have k0 : cu q c u = 0 := by rw [cu, if_pos hlt]
    have e1 : c' = q := by rw [← hc, cw, if_pos hlt]
    by_cases hl0 : l = 0
    · have e2 : u' = 0 := by rw [← hu, nu, k0, if_pos hl0.symm]
      have e3 : v = false := by rw [← hv, ch, k0, decide_eq_false_iff_not]; exact fun h => h hl0.symm
      subst e1 e2 e3 hl0
      clear h ha hw hq hc hu hv hl h0 hul k0
      go_enter Try.func16, Try.ntmps16
      go_wp2_with fail
      refine (windowR_any a wd c' _ HQ.out.1 HQ.out.2.1 HQ.out.2.2).mono ?_
      rintro e w1 ⟨rfl, hw1⟩
      subst hw1
      go_wp2_with fail
      have H2 := Lib.hid ((HB.out.setW c').setU 0)
      have F2 : Hid (Fr (fun k => k = x) w ((w.setCell ⟨x, 2, none⟩ (.int .u64 c')).setCell ⟨x, 3, none⟩ (.int .i64 0))) := (Fr.set1 _ _ _ _).trans (Fr.set1 _ _ _ _)
      revert H2 F2
      generalize (w.setCell ⟨x, 2, none⟩ (.int .u64 c')).setCell ⟨x, 3, none⟩ (.int .i64 0) = y
      intro H2 F2
      obtain ⟨d0, d1, d2, d3⟩ := H2.out.cells
      clear c0 c1 c2 c3 f2 f3
      go_quiet (fail)
      go_wp2_with fail
      go_ret
      exact ⟨rfl, H2.out.no (Fr.drewN _ _ _), F2.out.trans (Fr.drewN _ _ _)⟩
    · have e2 : u' = 1 := by rw [← hu, nu, k0, if_neg (fun h => hl0 h.symm)]; rfl
      have e3 : v = true := by rw [← hv, ch, k0, decide_eq_true_iff]; exact fun h => hl0 h.symm
      have p1 : ¬ l ≤ 0 := by omega
      subst e1 e2 e3
      clear h ha hw hq hc hu hv hl h0 hul k0
      go_enter Try.func16, Try.ntmps16
      go_wp2_with fail
      refine (windowR_any a wd c' _ HQ.out.1 HQ.out.2.1 HQ.out.2.2).mono ?_
      rintro e w1 ⟨rfl, hw1⟩
      subst hw1
      go_wp2_with fail
      have H2 := Lib.hid ((HB.out.setW c').setU 0)
      have F2 : Hid (Fr (fun k => k = x) w ((w.setCell ⟨x, 2, none⟩ (.int .u64 c')).setCell ⟨x, 3, none⟩ (.int .i64 0))) := (Fr.set1 _ _ _ _).trans (Fr.set1 _ _ _ _)
      revert H2 F2
      generalize (w.setCell ⟨x, 2, none⟩ (.int .u64 c')).setCell ⟨x, 3, none⟩ (.int .i64 0) = y
      intro H2 F2
      obtain ⟨d0, d1, d2, d3⟩ := H2.out.cells
      have f3' := H2.out.frozen 3
      clear c0 c1 c2 c3 f2 f3
      go_quiet (fail)
      go_wp2_with fail
      go_ret
      exact ⟨rfl, (H2.out.no (Fr.drewN _ _ _)).setU _, F2.out.trans ((Fr.drewN _ _ _).trans (Fr.set1 _ _ _ _))⟩
  · have k0 : cu q c u = u := by rw [cu, if_neg hlt]
    have e1 : c' = c := by rw [← hc, cw, if_neg hlt]
    by_cases hl0 : u = l
    · have e2 : u' = u := by rw [← hu, nu, k0, if_pos hl0]
      have e3 : v = false := by rw [← hv, ch, k0, decide_eq_false_iff_not]; exact fun h => h hl0
      subst e1 e2 e3 hl0
      clear h ha hw hq hc hu hv hl h0 hul k0
      go_enter Try.func16, Try.ntmps16
      go_wp2_with fail
      refine (windowR_any a wd q _ HQ.out.1 HQ.out.2.1 HQ.out.2.2).mono ?_
      rintro e w1 ⟨rfl, hw1⟩
      subst hw1
      go_wp2_with fail
      go_quiet (fail)
      go_wp2_with fail
      go_ret
      exact ⟨rfl, HB.out.no (Fr.drewN _ _ _), Fr.drewN _ _ _⟩
    · have e2 : u' = u + 1 := by rw [← hu, nu, k0, if_neg hl0]
      have e3 : v = true := by rw [← hv, ch, k0, decide_eq_true_iff]; exact hl0
      have p1 : ¬ l ≤ u := by omega
      have p2 : -9223372036854775808 ≤ u + 1 := by omega
      have p3 : u + 1 ≤ 9223372036854775807 := by omega
      subst e1 e2 e3
      clear h ha hw hq hc hu hv hl h0 hul k0
      go_enter Try.func16, Try.ntmps16
      go_wp2_with fail
      refine (windowR_any a wd q _ HQ.out.1 HQ.out.2.1 HQ.out.2.2).mono ?_
      rintro e w1 ⟨rfl, hw1⟩
      subst hw1
      go_wp2_with fail
      go_quiet (fail)
      go_wp2_with fail
      go_ret
      exact ⟨rfl, (HB.out.no (Fr.drewN _ _ _)).setU _, (Fr.drewN _ _ _).trans (Fr.set1 _ _ _ _)⟩
end Go.Proofs.Ytfpaihohhedhfaa
