/-
  CONTRACTS of Overwrite, WithSpare and Unchanged at integers, over this seat's translation.
  Conditions: the slices lie in memory; the copied slice is not longer than a machine can hold.
-/
import Derived.Test.YtmgpeonnmfidhaaSeq
namespace Go.Proofs.Ytmgpeonnmfidhaa
open Go.ChangeShapes Go.WideShapes Go.ChangeAt Go.RowKit
set_option linter.unusedVariables false

/-- A slice of n integers whose cells may be written. -/
def Wr (w : World) (a : Option Addr) (n : Nat) : Prop := 0 < n → ∃ g off, a = some ⟨g, off, none⟩ ∧ ∃ cs : Array Value, w.heap[g]? = some (.cells cs 3 (0, 0)) ∧ off + n ≤ cs.size

set_option maxHeartbeats 1000000 in
set_option maxRecDepth 100000 in
theorem overwrite_row (g off n cap : Nat) (cs : Array Value) (w : World) (hg : w.heap[g]? = some (.cells cs 3 (0, 0))) (hfit : off + n ≤ cs.size) (hn : n ≤ 4611686018427387904) :
    Calls Try.prog 23 #[.slice (some ⟨g, off, none⟩) n cap] w fun e w' => e = .returned (.tuple #[]) ∧ Fr (fun k => k = g) w w' := by
  have HS := Lib.hid (And.intro hg hfit)
  clear hg hfit
  go_enter Try.func23, Try.ntmps23
  go_wp2_with fail
  go_loopg [3] (n + 1) (fun t s3 wr => ∃ i : Nat, s3 = .int .i64 i ∧ i ≤ n ∧ n - i < t ∧ Hid (Fr (fun k => k = g) w wr ∧ ∃ ds : Array Value, wr.heap[g]? = some (.cells ds 3 (0, 0)) ∧ ds.size = cs.size))
  case atStart => exact ⟨0, rfl, by omega, by omega, Fr.refl _ _, cs, HS.out.1, rfl⟩
  case round =>
    obtain ⟨i, rfl, hin, hig, HR⟩ := hrel
    by_cases hi : i < n
    · obtain ⟨hf, ds, hd, hl⟩ := HR.out
      have p1 : (0 : Int) ≤ (i : Int) := by omega
      have p2 : (i : Int) < (n : Int) := by omega
      obtain ⟨x, hx⟩ : ∃ x, ds[off + i]? = some x := ⟨_, Array.getElem?_eq_getElem (by have := HS.out.2; omega)⟩
      have hc : wr.cell? ⟨g, off + i, none⟩ = some x := by
        rw [cell_of_row wr g _ _ _ _ hd]
        exact hx
      have hz : wr.frozen? ⟨g, off + i, none⟩ = false := frozen_of_row wr g _ _ _ hd
      have HD := Lib.hid (And.intro hf (And.intro hd hl))
      clear hf hd hl hx
      go_wp2_with fail
      go_roundg (n - i)
      case measure => exact hig
      case rel =>
        obtain ⟨hf, hd, hl⟩ := HD.out
        refine ⟨i + 1, by go_num, by omega, by omega, hf.trans (Fr.setCell _ _ _ _ rfl), _, heap_setCell_same wr g (off + i) _ _ _ hd, by simpa using hl⟩
    · obtain rfl : i = n := by omega
      have p2 : ¬ ((i : Int) < (i : Int)) := by omega
      go_wp2_with fail
      refine bodyPost_end (results_none rfl _ _ _) rfl ?_
      exact ⟨rfl, HR.out.1⟩

theorem overwrite_none (a : Option Addr) (cap : Nat) (w : World) :
    Calls Try.prog 23 #[.slice a 0 cap] w fun e w' => e = .returned (.tuple #[]) ∧ Fr No w w' := by
  go_enter Try.func23, Try.ntmps23
  go_wp2_with fail
  go_loopg [3] 1 (fun t s3 wr => s3 = .int .i64 0 ∧ 0 < t ∧ Hid (wr = w))
  case atStart => exact ⟨rfl, by omega, rfl⟩
  case round =>
    obtain ⟨rfl, ht, HR⟩ := hrel
    go_wp2_with fail
    refine bodyPost_end (results_none rfl _ _ _) rfl ?_
    rw [HR.out]
    exact ⟨rfl, Fr.refl _ _⟩

theorem overwrite_any (a : Option Addr) (n cap : Nat) (w : World) (h : Wr w a n) (hn : n ≤ 4611686018427387904) :
    Calls Try.prog 23 #[.slice a n cap] w fun e w' => e = .returned (.tuple #[]) ∧ Fr (Blk a) w w' := by
  by_cases h0 : n = 0
  · subst h0
    refine (overwrite_none a cap w).mono ?_
    rintro e w' ⟨rfl, hf⟩
    exact ⟨rfl, hf.no⟩
  · obtain ⟨g, off, rfl, cs, hg, hfit⟩ := h (by omega)
    refine (overwrite_row g off n cap cs w hg hfit hn).mono ?_
    rintro e w' ⟨rfl, hf⟩
    exact ⟨rfl, hf.mono fun k _ hk => ⟨_, rfl, hk.symm⟩⟩

theorem Wr.own {w : World} {base n cap m : Nat} {a : Option Addr} {xs : List Value} (h : w.ownsRow base 3 1 (.slice a n cap) n xs) (hm : m ≤ n) : Wr w a m := by
  intro h0
  rcases h.2 with ⟨hv, hn⟩ | ⟨g, c, cur, hv, _, hg, h1, _, h3, _⟩
  · omega
  · cases hv
    exact ⟨g, 0, rfl, cur, hg, by omega⟩

set_option maxHeartbeats 1000000 in
set_option maxRecDepth 100000 in
theorem spare_any (a : Option Addr) (n n3 cap : Nat) (xs : List Int) (w : World) (hx : At w a xs) (hn : xs.length = n) (hnil : a = none → cap = 0) (hb : n * 8 ≤ 140737488351232) (h3 : n + 3 = n3) :
    Calls Try.prog 21 #[.slice a n cap, .int .i64 9] w fun e w' => ∃ g c2, e = .returned (.slice (some ⟨g, 0, none⟩) n n3) ∧ w'.ownsRow w.heap.size 3 1 (.slice (some ⟨g, 0, none⟩) n3 c2) n3 (ints (xs ++ [9, 9, 9])) ∧ Fr No w w' := by
  have HO : Hid ((w.alloc (.cells #[] 3)).ownsRow w.heap.size 3 1 (.slice (some ⟨w.heap.size, 0, none⟩) 0 0) 0 (ints [])) := World.ownsRow_made w #[] 0 (Nat.le_refl _) (Nat.zero_le _) rfl
  have HX : Hid (At (w.alloc (.cells #[] 3)) a xs ∧ xs.length = n ∧ (a = none → cap = 0)) := ⟨hx.frNo (Fr.alloc _ _ _), hn, hnil⟩
  have H3 := Lib.hid h3
  have e3 : (n3 : Int) - 3 = (n : Int) := by omega
  have p1 : (0 : Int) ≤ (n : Int) := by omega
  have p2 : (n : Int) ≤ (n3 : Int) := by omega
  have hn3 : n3 ≤ 17592186044000 := by omega
  clear hx hn hnil h3
  go_enter Try.func21, Try.ntmps21
  go_wp2_with (first
    | (at_builtin; refine wpList_append_ints rfl (.tmp 6) (.tmp 7) rfl w.heap.size _ 0 [] rfl HO.out a n cap xs rfl HX.out.2.1 HX.out.1 HX.out.2.2 (by unfold maxLen; omega) (by omega) (by simp) ?_; intro a2 c2 w2 hown2 hgr2 hat2; rw [Nat.zero_add] at hown2 ⊢; rw [List.nil_append] at hown2; have H2 := Lib.hid (And.intro hown2 hgr2); clear hown2 hgr2 hat2)
    | (at_builtin; refine wpList_append_ints rfl (.tmp 9) (.tmp 13) rfl w.heap.size _ n xs rfl (H2.out.1.alloc _) _ 3 3 [9, 9, 9] rfl rfl (At.block (xs := [9, 9, 9]) (t := 3) (heap_alloc_new w2 _)) (fun h => by cases h) (by unfold maxLen; omega) (by omega) (by have := H2.out.2.size; simp at this ⊢; omega) ?_; intro a3 c3 w3 hown3 hgr3 hat3; rw [H3.out] at hown3 ⊢; obtain ⟨g3, cap3, hv3, _⟩ := hown3.form (by omega); cases hv3; have hc3 := (row_cap hown3).1; have hc63 := (row_cap hown3).2.1; have H4 := Lib.hid (And.intro hown3 hgr3); clear hown3 hgr3 hat3)
    | fail)
  go_ret
  have F2 : Fr No w w2 := (Fr.alloc No w (.cells #[] 3)).ofNew (Fr.grown (S := fun k => w.heap.size ≤ k) H2.out.2 (fun k hk => Nat.le_of_eq (Option.some.inj hk))) fun k hk => .inr hk
  have F3 : Fr No w w3 := (F2.trans (Fr.alloc No w2 _)).ofNew (Fr.grown (S := fun k => w.heap.size ≤ k) H4.out.2 (fun k hk => (H2.out.1.lt k hk).1)) fun k hk => .inr hk
  exact ⟨g3, c3, rfl, H4.out.1, F3⟩

set_option maxHeartbeats 1000000 in
set_option maxRecDepth 100000 in
theorem unchanged_any (a b : Option Addr) (n n3 cap : Nat) (xs : List Int) (w : World) (hx : At w a (xs ++ [9, 9, 9])) (hy : At w b xs) (hn : xs.length = n) (hb : n ≤ 17592186043904) (h3 : n + 3 = n3) :
    Calls Try.prog 22 #[.slice a n n3, .slice b n cap, .int .i64 9] w fun e w' => e = .returned (.bool true) ∧ Fr No w w' := by
  have HS := Lib.hid (And.intro hx (And.intro hy (And.intro hn h3)))
  have e3 : (n : Int) + 3 = (n3 : Int) := by omega
  have hx' : At w a xs := by have := hx.take n; rw [← hn, List.take_left] at this; exact this
  have HX := Lib.hid hx'
  have p0 : ¬ ((n3 : Int) < (n3 : Int)) := by omega
  have p1 : (0 : Int) ≤ (n3 : Int) := by omega
  have hn3 : n3 ≤ 17592186044000 := by omega
  have hnn : n ≤ n3 := by omega
  clear hx hy hn h3 hx'
  go_enter Try.func22, Try.ntmps22
  go_wp2_with fail
  refine (equal_same a b n n3 cap xs _ HX.out HS.out.2.1 HS.out.2.2.1 (by omega)).mono ?_
  rintro e w1 ⟨rfl, hf1⟩
  have H1 := Lib.hid (And.intro hf1 (HS.out.1.frNo hf1))
  clear hf1
  go_wp2_with fail
  go_loopg [8] (n3 - n + 1) (fun t s8 wr => ∃ i : Nat, s8 = .int .i64 i ∧ n ≤ i ∧ i ≤ n3 ∧ n3 - i < t ∧ Hid (wr = w1))
  case atStart => exact ⟨n, rfl, by omega, by omega, by omega, rfl⟩
  case round =>
    obtain ⟨i, rfl, hni, hin, hig, HR⟩ := hrel
    have hw := HR.out
    subst hw
    by_cases hi : i < n3
    · have q1 : (0 : Int) ≤ (i : Int) := by omega
      have q2 : (i : Int) < (n3 : Int) := by omega
      have h9 : (xs ++ [9, 9, 9])[i]? = some 9 := by
        rw [List.getElem?_append_right (by have := HS.out.2.2.1; omega)]
        have h1 := HS.out.2.2.1
        have h2 := HS.out.2.2.2
        rcases (by omega : i - xs.length = 0 ∨ i - xs.length = 1 ∨ i - xs.length = 2) with h | h | h <;> rw [h] <;> rfl
      obtain ⟨b', off, ha, hc⟩ := H1.out.2 i 9 h9
      subst ha
      clear h9
      go_wp2_with fail
      go_roundg (n3 - i)
      case measure => exact hig
      case rel => exact ⟨i + 1, by go_num, by omega, by omega, by omega, rfl⟩
    · obtain rfl : i = n3 := by omega
      have q2 : ¬ ((i : Int) < (i : Int)) := by omega
      go_wp2_with fail
      go_ret
      exact ⟨rfl, H1.out.1⟩

end Go.Proofs.Ytmgpeonnmfidhaa
