/-
  CONTRACT of the comparison of two slices of endpoints, over this seat's translation: slices of the same endpoints are equal.
  Conditions: the slices lie in memory as EndsAt says.
-/
import Derived.Test.YtanhjjinedjaaaaUniq
namespace Go.Proofs.Ytanhjjinedjaaaa
open Go.ChangeShapes Go.WideShapes Go.ChangeAt Go.RowKit
set_option linter.unusedVariables false

def EndsAt (w : World) (a : Option Addr) (n : Nat) (L : List (Int × Int)) : Prop := L.length = n ∧ ∀ (i : Nat) (p : Int × Int), L[i]? = some p → ∃ b, a = some ⟨b, 0, none⟩ ∧ w.cell? ⟨b, i * 2, none⟩ = some (.int .i64 p.1) ∧ w.cell? ⟨b, i * 2 + 1, none⟩ = some (.int .i64 p.2)

theorem EndsAt.row {w : World} {base : Nat} {a : Option Addr} {n cp : Nat} {L : List (Int × Int)} (h : Ends w base a n cp L) : EndsAt w a n L :=
  ⟨h.len.symm, fun i p hp => h.cells hp⟩

theorem EndsAt.fr {w w' : World} {a : Option Addr} {n : Nat} {L : List (Int × Int)} (h : EndsAt w a n L) (hf : Fr No w w') : EndsAt w' a n L :=
  ⟨h.1, fun i p hp => by
    obtain ⟨b, hb, hc, hd⟩ := h.2 i p hp
    have hlt : b < w.heap.size := World.block_lt_of_cell? w _ hc
    have hk := hf.block b hlt (fun h => h)
    exact ⟨b, hb, (World.cell?_of_block (a := ⟨b, i * 2, none⟩) hk).trans hc, (World.cell?_of_block (a := ⟨b, i * 2 + 1, none⟩) hk).trans hd⟩⟩

theorem eq1_any (x y : Int) (w : World) : Calls Try.prog 37 #[.agg #[.int .i64 x, .int .i64 y], .agg #[.int .i64 x, .int .i64 y]] w fun e w' => e = .returned (.bool true) ∧ Fr No w w' := by
  go_enter Try.func37, Try.ntmps37
  go_wp2
  all_goals (
    go_ret
    exact ⟨rfl, (Fr.alloc No w _).trans (Fr.alloc No _ _)⟩)

set_option maxHeartbeats 2000000 in
set_option maxRecDepth 100000 in
/-- Two slices of the same handles are equal. -/
theorem equalFunc_same (a b : Option Addr) (n c d : Nat) (L : List (Int × Int)) (w : World) (hx : EndsAt w a n L) (hy : EndsAt w b n L) (hn : n ≤ 1000) :
    Calls Try.prog 36 #[.slice a n c, .slice b n d, .func (.func 37) #[] #[]] w fun e w' => e = .returned (.bool true) ∧ Fr No w w' := by
  have HX := Lib.hid (And.intro hx hy)
  clear hx hy
  go_enter Try.func36, Try.ntmps36
  go_wp2_with fail
  go_loopg [7] (n + 1) (fun g s wr => ∃ (i : Nat), s = .int .i64 i ∧ i ≤ n ∧ n - i < g ∧ Hid (Fr No w wr))
  case atStart => exact ⟨0, by go_num, by omega, by omega, Fr.refl _ _⟩
  case round =>
    obtain ⟨i, rfl, hin, hig, HR⟩ := hrel
    by_cases hi : i < n
    · have hx1 := HX.out.1.fr HR.out
      have hy1 := HX.out.2.fr HR.out
      obtain ⟨⟨p1, p2⟩, gp⟩ : ∃ p, L[i]? = some p := ⟨_, List.getElem?_eq_getElem (by have := hx1.1; omega)⟩
      obtain ⟨bx, rfl, cx0, cx1⟩ := hx1.2 i _ gp
      obtain ⟨by_, rfl, cy0, cy1⟩ := hy1.2 i _ gp
      simp only at cx0 cx1 cy0 cy1
      have q1 : (0 : Int) ≤ (i : Int) := by omega
      have q2 : (i : Int) < (n : Int) := by omega
      clear hx1 hy1 gp
      go_wp2_with fail
      refine region_tail 9 (by kernel_rfl) (by kernel_rfl) ?_
      intro z hz
      have HZ : Hid (Fr No w z) := by subst hz; exact HR.out.trans (Fr.drew _ _)
      have dx0 : z.cell? ⟨bx, i * 2, none⟩ = some (.int .i64 p1) := by subst hz; exact cx0
      have dx1 : z.cell? ⟨bx, i * 2 + 1, none⟩ = some (.int .i64 p2) := by subst hz; exact cx1
      have dy0 : z.cell? ⟨by_, i * 2, none⟩ = some (.int .i64 p1) := by subst hz; exact cy0
      have dy1 : z.cell? ⟨by_, i * 2 + 1, none⟩ = some (.int .i64 p2) := by subst hz; exact cy1
      clear hz cx0 cx1 cy0 cy1
      simp only [List.take_succ_cons, List.take_zero, List.drop_succ_cons, List.drop_zero]
      iterate 9 still_step
      refine wpStill_nil ?_
      clear dx0 dx1 dy0 dy1
      go_wp2_with (go_at_call 37; refine (eq1_any p1 p2 _).mono ?_; rintro e w5 ⟨rfl, hf5⟩; have H5 := Lib.hid hf5; clear hf5)
      go_roundg (n - i)
      case measure => exact hig
      case rel => exact ⟨i + 1, by go_num, by omega, by omega, HZ.out.trans H5.out⟩
    · obtain rfl : i = n := by omega
      have q2 : ¬ ((i : Int) < (i : Int)) := by omega
      go_wp2_with fail
      go_ret
      exact ⟨rfl, HR.out⟩

theorem equal_same (a b : Option Addr) (n c d : Nat) (L : List (Int × Int)) (w : World) (hx : EndsAt w a n L) (hy : EndsAt w b n L) (hn : n ≤ 1000) :
    Calls Try.prog 17 #[.slice a n c, .slice b n d] w fun e w' => e = .returned (.bool true) ∧ Fr No w w' := by
  have HX := Lib.hid (And.intro hx hy)
  clear hx hy
  go_enter Try.func17, Try.ntmps17
  go_wp2_with fail
  refine (equalFunc_same a b n c d L _ HX.out.1 HX.out.2 hn).mono ?_
  rintro e w1 ⟨rfl, hf⟩
  have HF := Lib.hid hf
  clear hf
  go_wp2_with fail
  go_ret
  exact ⟨rfl, HF.out⟩

end Go.Proofs.Ytanhjjinedjaaaa
