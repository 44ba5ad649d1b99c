/-
  CONTRACT of the equality of two slices of integers, over this seat's translation: it tells whether they hold the same integers.
  Conditions: both slices lie in memory.
-/
import Derived.Test.YtmgpeonnmfidhaaLaws
namespace Go.Proofs.Ytmgpeonnmfidhaa
open Go.ChangeShapes Go.WideShapes Go.ChangeAt Go.RowKit
set_option linter.unusedVariables false

theorem eq1_any (x y : Int) (w : World) : Calls Try.prog 28 #[.int .i64 x, .int .i64 y] w fun e w' => e = .returned (.bool (x == y)) ∧ w' = w := by
  go_enter Try.func28, Try.ntmps28
  go_wp2
  go_ret
  exact ⟨rfl, rfl⟩

set_option maxHeartbeats 2000000 in
set_option maxRecDepth 100000 in
theorem equalFunc_any (a b : Option Addr) (n m c d : Nat) (xs ys : List Int) (w : World) (hx : At w a xs) (hy : At w b ys) (hnx : xs.length = n) (hmy : ys.length = m) (hn : n ≤ 4611686018427387904) :
    Calls Try.prog 27 #[.slice a n c, .slice b m d, .func (.func 28) #[] #[]] w fun e w' => e = .returned (.bool (decide (xs = ys))) ∧ Fr No w w' := by
  by_cases hnm : n = m
  · subst hnm
    have HX := Lib.hid (And.intro hx (And.intro hy (And.intro hnx hmy)))
    clear hx hy hnx hmy
    go_enter Try.func27, Try.ntmps27
    go_wp2_with fail
    go_loopg [7] (n + 1) (fun g s wr => ∃ (i : Nat), s = .int .i64 i ∧ i ≤ n ∧ n - i < g ∧ Hid (Fr No w wr ∧ xs.take i = ys.take i))
    case atStart => exact ⟨0, by go_num, by omega, by omega, Fr.refl _ _, rfl⟩
    case round =>
      obtain ⟨i, rfl, hin, hig, HR⟩ := hrel
      by_cases hi : i < n
      · obtain ⟨x, gx⟩ : ∃ x, xs[i]? = some x := ⟨_, List.getElem?_eq_getElem (by have := HX.out.2.2.1; omega)⟩
        obtain ⟨y, gy⟩ : ∃ y, ys[i]? = some y := ⟨_, List.getElem?_eq_getElem (by have := HX.out.2.2.2; omega)⟩
        obtain ⟨bx, ox, rfl, cx⟩ := (HX.out.1.frNo HR.out.1) i x gx
        obtain ⟨by_, oy, rfl, cy⟩ := (HX.out.2.1.frNo HR.out.1) i y gy
        have HG := Lib.hid (And.intro gx gy)
        have p1 : (0 : Int) ≤ (i : Int) := by omega
        have p2 : (i : Int) < (n : Int) := by omega
        clear gx gy
        go_wp2_with fail
        refine region_tail 9 (by kernel_rfl) (by kernel_rfl) ?_
        intro z hz
        have HZ : Hid (Fr No w z) := by subst hz; exact HR.out.1.trans (Fr.drew _ _)
        have cx' : z.cell? ⟨bx, ox + i, none⟩ = some (.int .i64 x) := by subst hz; exact cx
        have cy' : z.cell? ⟨by_, oy + i, none⟩ = some (.int .i64 y) := by subst hz; exact cy
        clear hz cx cy
        simp only [List.take_succ_cons, List.take_zero, List.drop_succ_cons, List.drop_zero]
        iterate 9 still_step
        refine wpStill_nil ?_
        clear cx' cy'
        by_cases hxy : x = y
        · subst hxy
          have he : (x == x) = true := by simp
          go_wp2_with (go_at_call 28; refine (eq1_any x x _).mono ?_; rintro e w' ⟨rfl, rfl⟩)
          go_roundg (n - i)
          case measure => exact hig
          case rel =>
            refine ⟨i + 1, by go_num, by omega, by omega, HZ.out, ?_⟩
            obtain ⟨gx, gy⟩ := HG.out
            rw [List.take_add_one, List.take_add_one, HR.out.2, gx, gy]
        · have he : (x == y) = false := by simpa using hxy
          go_wp2_with (go_at_call 28; refine (eq1_any x y _).mono ?_; rintro e w' ⟨rfl, rfl⟩)
          go_ret
          refine ⟨?_, HZ.out⟩
          obtain ⟨gx, gy⟩ := HG.out
          have : ¬ xs = ys := fun e => by rw [e, gy] at gx; cases gx; exact hxy rfl
          rw [decide_eq_false this]
          rfl
      · obtain rfl : i = n := by omega
        have p2 : ¬ ((i : Int) < (i : Int)) := by omega
        go_wp2_with fail
        go_ret
        refine ⟨?_, HR.out.1⟩
        have h2 := HR.out.2
        rw [List.take_of_length_le (by rw [HX.out.2.2.1]; exact Nat.le_refl _), List.take_of_length_le (by rw [HX.out.2.2.2]; exact Nat.le_refl _)] at h2
        rw [decide_eq_true h2]
        rfl
  · have hne : ((n : Int) == (m : Int)) = false := by simpa using (by omega : ¬ (n : Int) = (m : Int))
    have hd : decide (xs = ys) = false := decide_eq_false (fun e => hnm (by rw [← hnx, ← hmy, e]))
    have HD := Lib.hid hd
    clear hx hy hd
    go_enter Try.func27, Try.ntmps27
    go_wp2_with fail
    go_ret
    exact ⟨by rw [HD.out]; rfl, Fr.refl _ _⟩

theorem equal_same (a b : Option Addr) (n c d : Nat) (xs : List Int) (w : World) (hx : At w a xs) (hy : At w b xs) (hnx : xs.length = n) (hn : n ≤ 4611686018427387904) :
    Calls Try.prog 15 #[.slice a n c, .slice b n d] w fun e w' => e = .returned (.bool true) ∧ Fr No w w' := by
  have HX := Lib.hid (And.intro hx (And.intro hy hnx))
  clear hx hy hnx
  go_enter Try.func15, Try.ntmps15
  go_wp2_with fail
  refine (equalFunc_any a b n n c d xs xs _ HX.out.1 HX.out.2.1 HX.out.2.2 HX.out.2.2 hn).mono ?_
  rintro e w1 ⟨rfl, hf⟩
  have HF := Lib.hid hf
  clear hf
  rw [decide_eq_true rfl]
  go_wp2_with fail
  go_ret
  exact ⟨rfl, HF.out⟩

end Go.Proofs.Ytmgpeonnmfidhaa
