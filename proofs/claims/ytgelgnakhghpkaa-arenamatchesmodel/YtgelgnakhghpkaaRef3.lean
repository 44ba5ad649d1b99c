/-
  CONTRACTS of Handles of the reference arena and of the comparison of two slices of handles, over this seat's translation.
  Conditions: the reference arena lies in memory as RefAt says; the slices as HandsAt says.
-/
import Derived.Test.YtgelgnakhghpkaaRef1
namespace Go.Proofs.Ytgelgnakhghpkaa
open Go.ChangeShapes Go.WideShapes Go.ChangeAt Go.RowKit
set_option linter.unusedVariables false

theorem used2_length_le (L : List (Bool × Int)) : ∀ k, (used2 L k).length ≤ L.length := by
  induction L with
  | nil => intro k; simp [used2]
  | cons p L ih =>
    intro k
    simp only [used2]
    split
    · have := ih (k + 1); simp; omega
    · have := ih (k + 1); simp; omega

set_option maxHeartbeats 2000000 in
set_option maxRecDepth 100000 in
theorem handles_ref (xb g k : Nat) (R : List RS) (B : Int) (w : World) (h : RefAt w xb g k R B) :
    Calls Try.prog 20 #[.pointer (some ⟨xb, 0, none⟩)] w fun e w' => ∃ a cp, e = .returned (.slice a (handsR R).length cp) ∧ w'.ownsRow w.heap.size 38 2 (.slice a (handsR R).length cp) (handsR R).length (flatH (handsR R)) ∧ Fr No w w' := by
  have hk8 := h.small
  obtain ⟨i0, hi0, hz0, hz1, hz2⟩ := info_parts infoH
  have HS := Lib.hid h
  clear h
  go_enter Try.func20, Try.ntmps20
  go_wp2_with fail
  go_loopg [3, 4] (k + 1) (fun gg s3 s4 wr => ∃ (i m cp : Nat) (a : Option Addr), s3 = .slice a m cp ∧ s4 = .int .i64 i ∧ i ≤ k ∧ k - i < gg ∧ m ≤ i ∧ Hid (wr.ownsRow w.heap.size 38 2 (.slice a m cp) m (flatH (handsR (R.take i))) ∧ Fr No w wr))
  case atStart => exact ⟨0, 0, 0, none, rfl, by go_num, by omega, by omega, by omega, World.ownsRow_nil _ _ _ _, Fr.refl _ _⟩
  case round =>
    obtain ⟨i, m, cp, a, rfl, rfl, hin, hig, hmi, HR⟩ := hrel
    have hr := HS.out.frNo HR.out.2
    have c0 := hr.hcell
    by_cases hi : i < k
    · obtain ⟨r, gr⟩ : ∃ r, R[i]? = some r := ⟨_, List.getElem?_eq_getElem (by rw [hr.len]; exact hi)⟩
      obtain ⟨e0, e1, e2⟩ := hr.ecells gr
      have HG := Lib.hid gr
      have q1 : (0 : Int) ≤ (i : Int) := by omega
      have q2 : (i : Int) < (k : Int) := by omega
      have hsz := HR.out.2.size
      clear hr gr
      obtain ⟨gn, u, val⟩ := r
      simp only at e0 e1 e2
      cases u with
      | true =>
        go_wp2_with (first | (at_builtin; refine wpList_append_lies _ rfl (.tmp 22) (.tmp 33) 28 rfl w.heap.size 38 i0 _ 2 16 Try.underlying28 hi0 hz0 hz1 hz2 rfl (by omega) (.slice a m cp) m _ rfl (HR.out.1.alloc _) ⟨wr.heap.size, 0, none⟩ 1 1 [.int .i64 (i : Int), .int .i64 gn] rfl rfl (World.news_of_block (cs := #[.int .i64 (i : Int), .int .i64 gn]) (t := 38) (fr := (0, 0)) (heap_alloc_new wr _)) (one_pair _ _) (by omega) (by unfold maxLen; omega) (by omega) (by simp; omega) (wr.heap.size + 1) (by simp) ?_; intro g2 cp2 w2 hown hgrow hat hlt; have HB := Lib.hid (And.intro hown (And.intro hgrow hat)); clear hown hgrow hat hlt) | fail)
        go_roundg (k - i)
        case measure => exact hig
        case rel =>
          obtain ⟨hown, hgrow, hat⟩ := HB.out
          refine ⟨i + 1, m + 1, cp2, _, rfl, by go_num, by omega, by omega, by omega, ?_, ?_⟩
          · rw [handsR_take HG.out, flatH_append]
            exact hown
          · refine (HR.out.2.trans (Fr.alloc No wr _)).ofNew (Fr.grown (S := fun k => (Value.slice a m cp).ownBlock = some k) hgrow (fun k hk => hk)) fun k hk => .inr ?_
            exact (HR.out.1.lt k hk).1
      | false =>
        go_wp2_with fail
        go_roundg (k - i)
        case measure => exact hig
        case rel =>
          refine ⟨i + 1, m, cp, a, rfl, by go_num, by omega, by omega, by omega, ?_, HR.out.2⟩
          rw [handsR_take HG.out]
          simpa using HR.out.1
    · obtain rfl : i = k := by omega
      have q2 : ¬ ((i : Int) < (i : Int)) := by omega
      have hlen := hr.len
      have HL := Lib.hid hlen
      clear hr hlen
      go_wp2_with fail
      go_ret
      have h1 := HR.out.1
      rw [List.take_of_length_le (by have := HL.out; omega)] at h1
      have hm : m = (handsR R).length := by
        have h2 := h1.1
        rw [flatH_length] at h2
        omega
      subst hm
      exact ⟨a, cp, rfl, h1, HR.out.2⟩

/-! ### comparing -/

def HandsAt (w : World) (a : Option Addr) (n : Nat) (L : List (Int × Int)) : Prop := L.length = n ∧ ∀ (i : Nat) (p : Int × Int), L[i]? = some p → ∃ b, a = some ⟨b, 0, none⟩ ∧ w.cell? ⟨b, i * 2, none⟩ = some (.int .i64 p.1) ∧ w.cell? ⟨b, i * 2 + 1, none⟩ = some (.int .i64 p.2)

theorem HandsAt.row {w : World} {base : Nat} {a : Option Addr} {n cp : Nat} {L : List (Int × Int)} (h : w.ownsRow base 38 2 (.slice a n cp) n (flatH L)) : HandsAt w a n L :=
  ⟨by have := h.1; rw [flatH_length] at this; omega, fun i p hp => rowH_cell h hp⟩

theorem HandsAt.fr {w w' : World} {a : Option Addr} {n : Nat} {L : List (Int × Int)} (h : HandsAt w a n L) (hf : Fr No w w') : HandsAt w' a n L :=
  ⟨h.1, fun i p hp => by
    obtain ⟨b, hb, hc, hd⟩ := h.2 i p hp
    have hlt : b < w.heap.size := block_lt_of_cell hc
    have hk := hf.block b hlt (fun h => h)
    exact ⟨b, hb, (World.cell?_of_block (a := ⟨b, i * 2, none⟩) hk).trans hc, (World.cell?_of_block (a := ⟨b, i * 2 + 1, none⟩) hk).trans hd⟩⟩

theorem eq1_any (x y : Int) (w : World) : Calls Try.prog 36 #[.agg #[.int .i64 x, .int .i64 y], .agg #[.int .i64 x, .int .i64 y]] w fun e w' => e = .returned (.bool true) ∧ Fr No w w' := by
  go_enter Try.func36, Try.ntmps36
  go_wp2
  all_goals (
    go_ret
    exact ⟨rfl, (Fr.alloc No w _).trans (Fr.alloc No _ _)⟩)

set_option maxHeartbeats 2000000 in
set_option maxRecDepth 100000 in
/-- Two slices of the same handles are equal. -/
theorem equalFunc_same (a b : Option Addr) (n c d : Nat) (L : List (Int × Int)) (w : World) (hx : HandsAt w a n L) (hy : HandsAt w b n L) (hn : n ≤ 1000) :
    Calls Try.prog 35 #[.slice a n c, .slice b n d, .func (.func 36) #[] #[]] w fun e w' => e = .returned (.bool true) ∧ Fr No w w' := by
  have HX := Lib.hid (And.intro hx hy)
  clear hx hy
  go_enter Try.func35, Try.ntmps35
  go_wp2_with fail
  go_loopg [7] (n + 1) (fun g s wr => ∃ (i : Nat), s = .int .i64 i ∧ i ≤ n ∧ n - i < g ∧ Hid (Fr No w wr))
  case atStart => exact ⟨0, by go_num, by omega, by omega, Fr.refl _ _⟩
  case round =>
    obtain ⟨i, rfl, hin, hig, HR⟩ := hrel
    by_cases hi : i < n
    · have hx1 := HX.out.1.fr HR.out
      have hy1 := HX.out.2.fr HR.out
      obtain ⟨⟨p1, p2⟩, gp⟩ : ∃ p, L[i]? = some p := ⟨_, List.getElem?_eq_getElem (by have := hx1.1; omega)⟩
      obtain ⟨bx, rfl, cx0, cx1⟩ := hx1.2 i _ gp
      obtain ⟨by_, rfl, cy0, cy1⟩ := hy1.2 i _ gp
      simp only at cx0 cx1 cy0 cy1
      have q1 : (0 : Int) ≤ (i : Int) := by omega
      have q2 : (i : Int) < (n : Int) := by omega
      clear hx1 hy1 gp
      go_wp2_with fail
      refine region_tail 9 (by kernel_rfl) (by kernel_rfl) ?_
      intro z hz
      have HZ : Hid (Fr No w z) := by subst hz; exact HR.out.trans (Fr.drew _ _)
      have dx0 : z.cell? ⟨bx, i * 2, none⟩ = some (.int .i64 p1) := by subst hz; exact cx0
      have dx1 : z.cell? ⟨bx, i * 2 + 1, none⟩ = some (.int .i64 p2) := by subst hz; exact cx1
      have dy0 : z.cell? ⟨by_, i * 2, none⟩ = some (.int .i64 p1) := by subst hz; exact cy0
      have dy1 : z.cell? ⟨by_, i * 2 + 1, none⟩ = some (.int .i64 p2) := by subst hz; exact cy1
      clear hz cx0 cx1 cy0 cy1
      simp only [List.take_succ_cons, List.take_zero, List.drop_succ_cons, List.drop_zero]
      iterate 9 still_step
      refine wpStill_nil ?_
      clear dx0 dx1 dy0 dy1
      go_wp2_with (go_at_call 36; refine (eq1_any p1 p2 _).mono ?_; rintro e w5 ⟨rfl, hf5⟩; have H5 := Lib.hid hf5; clear hf5)
      go_roundg (n - i)
      case measure => exact hig
      case rel => exact ⟨i + 1, by go_num, by omega, by omega, HZ.out.trans H5.out⟩
    · obtain rfl : i = n := by omega
      have q2 : ¬ ((i : Int) < (i : Int)) := by omega
      go_wp2_with fail
      go_ret
      exact ⟨rfl, HR.out⟩

theorem equal_same (a b : Option Addr) (n c d : Nat) (L : List (Int × Int)) (w : World) (hx : HandsAt w a n L) (hy : HandsAt w b n L) (hn : n ≤ 1000) :
    Calls Try.prog 19 #[.slice a n c, .slice b n d] w fun e w' => e = .returned (.bool true) ∧ Fr No w w' := by
  have HX := Lib.hid (And.intro hx hy)
  clear hx hy
  go_enter Try.func19, Try.ntmps19
  go_wp2_with fail
  refine (equalFunc_same a b n c d L _ HX.out.1 HX.out.2 hn).mono ?_
  rintro e w1 ⟨rfl, hf⟩
  have HF := Lib.hid hf
  clear hf
  go_wp2_with fail
  go_ret
  exact ⟨rfl, HF.out⟩

end Go.Proofs.Ytgelgnakhghpkaa
