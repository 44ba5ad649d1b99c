/-
  CONTRACTS of the comparison of two slices of integers, over this seat's translation.
  Conditions: the slices lie in memory as IntsAt says; at most 1000 integers.
-/
import Derived.Test.YtbgddldkpjeieaaGreatFam
import Derived.Deep.LoopGhost
namespace Go.Proofs.YtbgddldkpjeieaaGreat
open Go.ChangeShapes Go.WideShapes Go.ChangeAt Go.RowKit Go.Maps
set_option linter.unusedVariables false

def IntsAt (w : World) (a : Option Addr) (n : Nat) (xs : List Int) : Prop := xs.length = n ∧ ∀ (i : Nat) (x : Int), xs[i]? = some x → ∃ b o, a = some ⟨b, o, none⟩ ∧ w.cell? ⟨b, o + i, none⟩ = some (.int .i64 x)

theorem IntsAt.row {w : World} {base : Nat} {a : Option Addr} {n cap : Nat} {xs : List Int} (h : w.ownsRow base 3 1 (.slice a n cap) n (xs.map (Value.int .i64))) : IntsAt w a n xs := by
  have hl : xs.length = n := by have := h.1; simpa using this
  refine ⟨hl, fun i x hx => ?_⟩
  rcases h.2 with ⟨hv, hn⟩ | ⟨g, cap', cur, hv, _⟩
  · have := (List.getElem?_eq_some_iff.1 hx).1; omega
  · cases hv
    exact ⟨g, 0, rfl, by rw [Nat.zero_add]; exact row_cell h hx⟩

theorem IntsAt.fr {S : Nat → Prop} {w w' : World} {a : Option Addr} {n : Nat} {xs : List Int} (h : IntsAt w a n xs) (hf : Fr S w w') (hS : ∀ b o, a = some ⟨b, o, none⟩ → ¬ S b) : IntsAt w' a n xs :=
  ⟨h.1, fun i x hx => by
    obtain ⟨b, o, hb, hc⟩ := h.2 i x hx
    have hlt : b < w.heap.size := block_lt_of_cell hc
    exact ⟨b, o, hb, (World.cell?_of_block (a := ⟨b, o + i, none⟩) (hf.block b hlt (hS b o hb))).trans hc⟩⟩

theorem eq1_any (x y : Int) (w : World) : Calls Tryz.prog 48 #[.int .i64 x, .int .i64 y] w fun e w' => e = .returned (.bool (x == y)) ∧ w' = w := by
  go_enter Tryz.func48, Tryz.ntmps48
  go_wp2
  go_ret
  exact ⟨rfl, rfl⟩

set_option maxHeartbeats 2000000 in
set_option maxRecDepth 100000 in
theorem equalFunc_any (a b : Option Addr) (n m c d : Nat) (xs ys : List Int) (w : World) (hx : IntsAt w a n xs) (hy : IntsAt w b m ys) (hn : n ≤ 1000) :
    Calls Tryz.prog 47 #[.slice a n c, .slice b m d, .func (.func 48) #[] #[]] w fun e w' => e = .returned (.bool (decide (xs = ys))) ∧ Fr No w w' := by
  by_cases hnm : n = m
  · subst hnm
    have HX := Lib.hid (And.intro hx hy)
    clear hx hy
    go_enter Tryz.func47, Tryz.ntmps47
    go_wp2_with fail
    go_loopg [7] (n + 1) (fun g s wr => ∃ (i : Nat), s = .int .i64 i ∧ i ≤ n ∧ n - i < g ∧ Hid (Fr No w wr ∧ xs.take i = ys.take i))
    case atStart => exact ⟨0, by go_num, by omega, by omega, Fr.refl _ _, rfl⟩
    case round =>
      obtain ⟨i, rfl, hin, hig, HR⟩ := hrel
      by_cases hi : i < n
      · have hx1 := HX.out.1.fr HR.out.1 (fun _ _ _ h => h)
        have hy1 := HX.out.2.fr HR.out.1 (fun _ _ _ h => h)
        obtain ⟨x, gx⟩ : ∃ x, xs[i]? = some x := ⟨_, List.getElem?_eq_getElem (by have := hx1.1; omega)⟩
        obtain ⟨y, gy⟩ : ∃ y, ys[i]? = some y := ⟨_, List.getElem?_eq_getElem (by have := hy1.1; omega)⟩
        obtain ⟨bx, ox, rfl, cx⟩ := hx1.2 i x gx
        obtain ⟨by_, oy, rfl, cy⟩ := hy1.2 i y gy
        have HG := Lib.hid (And.intro gx (And.intro gy (And.intro hx1.1 hy1.1)))
        have p1 : (0 : Int) ≤ (i : Int) := by omega
        have p2 : (i : Int) < (n : Int) := by omega
        clear gx gy hx1 hy1
        go_wp2_with fail
        refine region_tail 9 (by kernel_rfl) (by kernel_rfl) ?_
        intro z hz
        have HZ : Hid (Fr No w z) := by subst hz; exact HR.out.1.trans (Fr.drew _ _)
        have cx' : z.cell? ⟨bx, ox + i, none⟩ = some (.int .i64 x) := by subst hz; exact cx
        have cy' : z.cell? ⟨by_, oy + i, none⟩ = some (.int .i64 y) := by subst hz; exact cy
        clear hz cx cy
        simp only [List.take_succ_cons, List.take_zero, List.drop_succ_cons, List.drop_zero]
        iterate 9 still_step
        refine wpStill_nil ?_
        clear cx' cy'
        by_cases hxy : x = y
        · subst hxy
          have he : (x == x) = true := by simp
          go_wp2_with (go_at_call 48; refine (eq1_any x x _).mono ?_; rintro e w' ⟨rfl, rfl⟩)
          go_roundg (n - i)
          case measure => exact hig
          case rel =>
            refine ⟨i + 1, by go_num, by omega, by omega, HZ.out, ?_⟩
            obtain ⟨gx, gy, _⟩ := HG.out
            rw [List.take_add_one, List.take_add_one, HR.out.2, gx, gy]
        · have he : (x == y) = false := by simpa using hxy
          go_wp2_with (go_at_call 48; refine (eq1_any x y _).mono ?_; rintro e w' ⟨rfl, rfl⟩)
          go_ret
          refine ⟨?_, HZ.out⟩
          obtain ⟨gx, gy, _⟩ := HG.out
          have : ¬ xs = ys := fun e => by rw [e, gy] at gx; cases gx; exact hxy rfl
          rw [decide_eq_false this]
          rfl
      · obtain rfl : i = n := by omega
        have p2 : ¬ ((i : Int) < (i : Int)) := by omega
        go_wp2_with fail
        go_ret
        refine ⟨?_, HR.out.1⟩
        have h2 := HR.out.2
        rw [List.take_of_length_le (by rw [HX.out.1.1]; exact Nat.le_refl _), List.take_of_length_le (by rw [HX.out.2.1]; exact Nat.le_refl _)] at h2
        rw [decide_eq_true h2]
        rfl
  · have hne : ((n : Int) == (m : Int)) = false := by simpa using (by omega : ¬ (n : Int) = (m : Int))
    have hd : decide (xs = ys) = false := decide_eq_false (fun e => hnm (by rw [← hx.1, ← hy.1, e]))
    have HD := Lib.hid hd
    clear hx hy hd
    go_enter Tryz.func47, Tryz.ntmps47
    go_wp2_with fail
    go_ret
    exact ⟨by rw [HD.out]; rfl, Fr.refl _ _⟩

theorem equal_any (a b : Option Addr) (n m c d : Nat) (xs ys : List Int) (w : World) (hx : IntsAt w a n xs) (hy : IntsAt w b m ys) (hn : n ≤ 1000) :
    Calls Tryz.prog 32 #[.slice a n c, .slice b m d] w fun e w' => e = .returned (.bool (decide (xs = ys))) ∧ Fr No w w' := by
  have HX := Lib.hid (And.intro hx hy)
  clear hx hy
  go_enter Tryz.func32, Tryz.ntmps32
  go_wp2_with fail
  refine (equalFunc_any a b n m c d xs ys _ HX.out.1 HX.out.2 hn).mono ?_
  rintro e w1 ⟨rfl, hf⟩
  have HF := Lib.hid hf
  clear hf
  go_wp2_with fail
  go_ret
  exact ⟨rfl, HF.out⟩

end Go.Proofs.YtbgddldkpjeieaaGreat
