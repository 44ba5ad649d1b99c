/-
  CONTRACT of Handles of the arena of integers, over this seat's translation; how a row of handles lies in memory.
  Conditions: the arena lies in memory as ArenaAt says.
-/
import Derived.Test.YtgelgnakhghpkaaI4
namespace Go.Proofs.Ytgelgnakhghpkaa
open Go.ChangeShapes Go.WideShapes Go.ChangeAt Go.RowKit
set_option linter.unusedVariables false

def hands : Nat → List Slot → List (Int × Int)
  | _, [] => []
  | k, s :: A => if s.used then ((k : Int), s.gen) :: hands (k + 1) A else hands (k + 1) A

theorem hands_append (A B : List Slot) : ∀ k, hands k (A ++ B) = hands k A ++ hands (k + A.length) B := by
  induction A with
  | nil => intro k; simp [hands]
  | cons s A ih =>
    intro k
    simp only [List.cons_append, hands, ih, List.length_cons]
    rw [show k + 1 + A.length = k + (A.length + 1) by omega]
    split <;> simp

theorem hands_take {A : List Slot} {i : Nat} {s : Slot} (h : A[i]? = some s) : hands 0 (A.take (i + 1)) = hands 0 (A.take i) ++ (if s.used then [((i : Int), s.gen)] else []) := by
  have hi : i < A.length := (List.getElem?_eq_some_iff.1 h).1
  rw [List.take_add_one, h, hands_append]
  simp only [Option.toList, hands, List.length_take, Nat.zero_add, Nat.min_eq_left (Nat.le_of_lt hi)]

theorem hands_length (A : List Slot) : ∀ k, (hands k A).length = cnt A := by
  induction A with
  | nil => intro k; rfl
  | cons s A ih =>
    intro k
    simp only [hands, cnt, List.countP_cons] at ih ⊢
    split
    · simp [ih]
    · simp [ih]

def flatH : List (Int × Int) → List Value
  | [] => []
  | p :: L => .int .i64 p.1 :: .int .i64 p.2 :: flatH L

theorem flatH_append (A B : List (Int × Int)) : flatH (A ++ B) = flatH A ++ flatH B := by
  induction A with
  | nil => rfl
  | cons a A ih => simp [flatH, ih]

theorem flatH_length (A : List (Int × Int)) : (flatH A).length = A.length * 2 := by
  induction A with
  | nil => rfl
  | cons a A ih => simp [flatH, ih]; omega

theorem flatH_get (A : List (Int × Int)) : ∀ (i : Nat) (p : Int × Int), A[i]? = some p → (flatH A)[i * 2]? = some (.int .i64 p.1) ∧ (flatH A)[i * 2 + 1]? = some (.int .i64 p.2) := by
  induction A with
  | nil => intro i p h; simp at h
  | cons a A ih =>
    intro i p h
    cases i with
    | zero => simp at h; subst h; simp [flatH]
    | succ i =>
      have := ih i p (by simpa using h)
      rw [show (i + 1) * 2 = i * 2 + 1 + 1 by omega]
      simpa [flatH, Nat.add_right_comm] using this

theorem infoH : (Try.prog.info? 38).map (fun i => (i.zero, i.size, i.bytes)) = some (some (.agg #[.int .i64 0, .int .i64 0]), 2, 16) := by kernel_rfl

theorem one_pair (x y : Int) : ∀ u ∈ [Value.int .i64 x, .int .i64 y], u.oneCell' = true := by intro u hu; simp at hu; rcases hu with rfl | rfl <;> rfl

namespace I
set_option maxHeartbeats 2000000 in
set_option maxRecDepth 100000 in
theorem handles_any (S : Nat → Prop) (hb : Nat) (A : List Slot) (size : Nat) (B : Int) (w : World) (h : AI S w hb A size B) :
    Calls Try.prog 11 #[.pointer (some ⟨hb, 0, none⟩)] w fun e w' => ∃ a cp, e = .returned (.slice a (cnt A) cp) ∧ w'.ownsRow w.heap.size 38 2 (.slice a (cnt A) cp) (cnt A) (flatH (hands 0 A)) ∧ Fr No w w' := by
  have hl4 : A.length ≤ 4096 := Nat.le_trans h.good.len h.good.size
  obtain ⟨⟨sv, hr, _⟩, hg⟩ := h
  obtain ⟨i0, hi0, hz0, hz1, hz2⟩ := info_parts infoH
  have hc4 : cnt A ≤ 4096 := Nat.le_trans (cnt_le A) hl4
  obtain ⟨c, hcc⟩ : ∃ c, cnt A = c := ⟨_, rfl⟩
  obtain ⟨n, hn⟩ : ∃ n, A.length = n := ⟨_, rfl⟩
  obtain ⟨a, cap, rfl⟩ := hr.any
  obtain ⟨c0, -, c2⟩ := hr.hcell
  rw [hcc] at c2 hc4
  rw [hn] at c0 hr hl4
  have hmk : ∀ w : World, (Instr.makeSlice 28 (.int .i64 0) (.int .i64 (c : Int))).run Try.prog w = .ok (.slice (some ⟨w.heap.size, 0, none⟩) 0 c) (w.alloc (.cells (madeCells #[.int .i64 0, .int .i64 0] (c * 2)) 38)) := by
    intro w
    have := run_make (P := Try.prog) w 28 38 i0 _ Try.underlying28 hi0 hz0 .i64 .i64 0 c (by omega) (by omega) (by rw [hz2]; omega) (by omega)
    simpa [hz1, Value.cells] using this
  have HS := Lib.hid (And.intro hr (And.intro hn (And.intro hcc hg)))
  have HM : Hid ((w.alloc (.cells (madeCells #[.int .i64 0, .int .i64 0] (c * 2)) 38)).ownsRow w.heap.size 38 2 (.slice (some ⟨w.heap.size, 0, none⟩) 0 c) 0 []) :=
    World.ownsRow_made w _ c (Nat.le_refl _) (by unfold maxLen; omega) (size_madeCells _ _)
  have c0' : (w.alloc (.cells (madeCells #[.int .i64 0, .int .i64 0] (c * 2)) 38)).cell? ⟨hb, 0, none⟩ = some (.slice a n cap) := (hr.frNo (Fr.alloc No w (.cells (madeCells #[.int .i64 0, .int .i64 0] (c * 2)) 38))).hcell.1
  clear hr hn hcc hg
  go_enter Try.func11, Try.ntmps11
  go_wp2_with fail
  clear c0' c0 c2 hmk
  have HF0 : Hid (Fr No w (w.alloc (.cells (madeCells #[.int .i64 0, .int .i64 0] (c * 2)) 38))) := Fr.alloc _ _ _
  go_loopg [3, 16] (n + 1) (fun g s3 s16 wr => ∃ (i rb m cp : Nat), s3 = .slice (some ⟨rb, 0, none⟩) m cp ∧ s16 = .int .i64 i ∧ i ≤ n ∧ n - i < g ∧ m ≤ i ∧ Hid (wr.ownsRow w.heap.size 38 2 (.slice (some ⟨rb, 0, none⟩) m cp) m (flatH (hands 0 (A.take i))) ∧ Fr No w wr))
  case atStart => exact ⟨0, w.heap.size, 0, c, rfl, by go_num, by omega, by omega, by omega, HM.out, HF0.out⟩
  case round =>
    obtain ⟨i, rb, m, cp, rfl, rfl, hin, hig, hmi, HR⟩ := hrel
    clear HM HF0
    by_cases hi : i < n
    · obtain ⟨s, gs⟩ : ∃ s, A[i]? = some s := ⟨_, List.getElem?_eq_getElem (by have := HS.out.2.1; omega)⟩
      have hr := HS.out.1.frNo HR.out.2
      obtain ⟨g, cap', hv⟩ := hr.form (by have := HS.out.2.1; omega)
      obtain rfl : a = some ⟨g, 0, none⟩ := by cases hv; rfl
      obtain ⟨c0, -, -⟩ := hr.hcell
      have e0 := hr.ecells gs 0 _ rfl
      have e1 := hr.ecells gs 1 _ rfl
      rw [Nat.add_zero] at e0
      have hgen := HS.out.2.2.2.gen s (List.mem_of_getElem? gs)
      have HG := Lib.hid (And.intro gs hgen)
      have q1 : (0 : Int) ≤ (i : Int) := by omega
      have q2 : (i : Int) < (n : Int) := by omega
      clear hr hv gs hgen
      obtain ⟨u, gn, val⟩ := s
      cases u with
      | true =>
        simp only at e0 e1
        have hsz := HR.out.2.size
        go_wp2_with (first | (at_builtin; refine wpList_append_lies _ rfl (.tmp 29) (.tmp 36) 28 rfl w.heap.size 38 i0 _ 2 16 Try.underlying28 hi0 hz0 hz1 hz2 rfl (by omega) (.slice (some ⟨rb, 0, none⟩) m cp) m _ rfl (HR.out.1.alloc _) ⟨wr.heap.size, 0, none⟩ 1 1 [.int .i64 (i : Int), .int .i64 gn] rfl rfl (World.news_of_block (cs := #[.int .i64 (i : Int), .int .i64 gn]) (t := 38) (fr := (0, 0)) (heap_alloc_new wr _)) (one_pair _ _) (by omega) (by unfold maxLen; omega) (by omega) (by simp; omega) (wr.heap.size + 1) (by simp) ?_; intro g2 cp2 w2 hown hgrow hat hlt; have HB := Lib.hid (And.intro hown (And.intro hgrow hat)); clear hown hgrow hat hlt) | fail)
        go_roundg (n - i)
        case measure => exact hig
        case rel =>
          obtain ⟨hown, hgrow, hat⟩ := HB.out
          refine ⟨i + 1, g2, m + 1, cp2, rfl, by go_num, by omega, by omega, by omega, ?_, ?_⟩
          · rw [hands_take HG.out.1, flatH_append]
            exact hown
          · refine (HR.out.2.trans (Fr.alloc No wr _)).ofNew (Fr.grown (S := fun k => k = rb) hgrow (fun k hk => by simp [Value.ownBlock] at hk; omega)) fun k hk => .inr ?_
            have := (HR.out.1.lt rb rfl).1
            omega
      | false =>
        simp only at e0 e1
        go_wp2_with fail
        go_roundg (n - i)
        case measure => exact hig
        case rel =>
          refine ⟨i + 1, rb, m, cp, rfl, by go_num, by omega, by omega, by omega, ?_, HR.out.2⟩
          rw [hands_take HG.out.1]
          simpa using HR.out.1
    · obtain rfl : i = n := by omega
      have q2 : ¬ ((i : Int) < (i : Int)) := by omega
      go_wp2_with fail
      go_ret
      obtain ⟨hr, hn, hcc, hg⟩ := HS.out
      have h1 := HR.out.1
      rw [List.take_of_length_le (by omega)] at h1
      have hm : m = cnt A := by
        have h2 := h1.1
        rw [flatH_length, hands_length] at h2
        omega
      subst hm
      exact ⟨_, cp, rfl, h1, HR.out.2⟩
end I

end Go.Proofs.Ytgelgnakhghpkaa
