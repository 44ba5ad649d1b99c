/-
  CONTRACT of reserve, over this seat's translation: the ring buffer holds the same elements, and its row has room.
  Conditions: the ring buffer lies in memory as RingAt says.
-/
import Derived.Test.YtmgpeonnmfidhaaR4
namespace Go.Proofs.Ytmgpeonnmfidhaa
open Go.ChangeShapes Go.WideShapes Go.ChangeAt Go.RowKit
set_option linter.unusedVariables false

/-- A piece of a row of integers that is known whole is overwritten by copy. -/
theorem wpList_copy_ints {w : World} {ops : Array Oper} {rest : List Oper} {o : Oper} {a : Act} {Q : Exit → Act → World → Prop} (hgd : o.guard = none) (d s : Operand)
    (ho : o.op = .call { callee := .builtin .copy, args := #[d, s], argTypes := #[34, 34] })
    (g off : Nat) (sp : Option Addr) (dLen dCap sLen sCap : Nat) (hd : a.eval d = .slice (some ⟨g, off, none⟩) dLen dCap) (hs : a.eval s = .slice sp sLen sCap)
    (cur : List Int) (hg : w.heap[g]? = some (.cells (ints cur).toArray 3 (0, 0))) (cs : List Int) (hn : cs.length = Nat.min sLen dLen) (hsrc : At w sp cs) (hfit : off + cs.length ≤ cur.length)
    (h : ∀ w', w'.heap[g]? = some (.cells (ints (splice cur off cs)).toArray 3 (0, 0)) → Fr (fun k => k = g) w w' → wpList Try.prog ops Q rest (a.put o.dst (goInt cs.length)) w') : wpList Try.prog ops Q (o :: rest) a w := by
  by_cases h0 : cs.length = 0
  · obtain rfl : cs = [] := List.eq_nil_of_length_eq_zero h0
    refine wpList_copy_nothing hgd d s 34 34 ho 3 Try.underlying34 size3 _ sp dLen dCap sLen sCap hd hs (by simpa using hn.symm) ?_
    have hs : splice cur off ([] : List Int) = cur := by simp [splice]
    have := h w (by rw [hs]; exact hg) (Fr.refl _ _)
    simpa using this
  · obtain ⟨b, so, hsp, _⟩ := hsrc 0 cs[0] (List.getElem?_eq_getElem (by omega))
    subst hsp
    refine wpList_copy_own hgd d s 34 34 ho 3 Try.underlying34 size3 g off dLen dCap ⟨b, so, none⟩ sLen sCap hd hs _ 3 hg (ints cs) (by rw [ints_length]; exact hn) hsrc.src (by simpa [ints_length] using hfit) (ints_one cs) ?_
    rw [ints_length]
    refine h _ ?_ (Fr.setRow _ _ _ _ rfl)
    rw [← ints_splice]
    have := setRow_heap w g _ ((ints cur).take off ++ (ints cs ++ (ints cur).drop (off + (ints cs).length))).toArray 3 _ hg
    simpa [splice, ints_length] using this

theorem Raw.setSlots {w : World} {hb g : Nat} {sv : Value} {L L' : List Int} {f c size : Nat} (h : Raw w hb sv L f c size) (hg : w.heap[g]? = some (.cells (ints L').toArray 3 (0, 0))) (hne : g ≠ hb) (hl : 0 < L'.length) :
    Raw (w.setCell ⟨hb, 0, none⟩ (.slice (some ⟨g, 0, none⟩) L'.length L'.length)) hb (.slice (some ⟨g, 0, none⟩) L'.length L'.length) L' f c size :=
  ⟨by rw [heap_setCell_same w hb 0 _ _ _ h.hdr]; rfl, .inr ⟨g, rfl, (heap_setCell_other _ _ _ _ hne).trans hg, hl, hne⟩⟩

theorem made_ints (M : Nat) : madeCells #[.int .i64 0] M = (ints (List.replicate M 0)).toArray := by
  apply Array.ext
  · simp [madeCells, ints]
  · intro i h1 h2
    simp [madeCells, ints, Nat.mod_one]

theorem view_new {Q : List Int} {size M : Nat} (h1 : Q.length ≤ M) (h2 : M ≤ size) (h3 : size ≤ 4096) (h4 : 0 < M) : Sound (splice (List.replicate M 0) 0 Q) 0 Q size := by
  have hl : (splice (List.replicate M (0 : Int)) 0 Q).length = M := by rw [length_splice _ _ _ (by simpa using h1)]; simp
  refine ⟨by omega, h3, .inl (by omega), by omega, fun i hi => ?_⟩
  rw [hl, splice_get _ _ _ (by simpa using h1)]
  have : ix M 0 i = i := by unfold ix; rw [if_pos (by omega)]; omega
  rw [this, if_pos (by omega)]
  rfl

theorem reserve_stay (hb : Nat) (sv : Value) (L : List Int) (f c size n N : Nat) (w : World) (hr : Raw w hb sv L f c size) (hN : L.length = N) (h4 : N ≤ 4096) (hn : n ≤ N) :
    Calls Try.prog 25 #[.pointer (some ⟨hb, 0, none⟩), .int .i64 n] w fun e w' => e = .returned (.tuple #[]) ∧ w' = w := by
  obtain ⟨a, hsv⟩ := hr.any
  rw [hN] at hsv
  subst hsv
  obtain ⟨c0, c1, c2, c3⟩ := hr.hcell
  have p1 : (n : Int) ≤ (N : Int) := by omega
  clear hr hN
  go_enter Try.func25, Try.ntmps25
  go_wp2_with fail
  refine bodyPost_ret (results_none rfl _ _ _) rfl ?_
  exact ⟨rfl, rfl⟩

set_option maxHeartbeats 2000000 in
set_option maxRecDepth 100000 in
theorem reserve_a (S : Nat → Prop) (hb : Nat) (sv : Value) (Q L : List Int) (f c size n N N2 : Nat) (w : World) (hr : Raw w hb sv L f c size) (hg : Sound L f Q size) (hS : ∀ k, Own hb sv k → S k) (hnew : ∀ k, w.heap.size ≤ k → S k) (hc : Q.length = c) (hN : L.length = N) (hn : N < n) (hsz : n ≤ size) (h2 : N2 = 2 * N) (h3 : N2 ≤ n ∧ n < size) :
    Calls Try.prog 25 #[.pointer (some ⟨hb, 0, none⟩), .int .i64 n] w fun e w' => e = .returned (.tuple #[]) ∧ ∃ sv' L' f', Raw w' hb sv' L' f' c size ∧ Sound L' f' Q size ∧ (∀ k, Own hb sv' k → S k) ∧ n ≤ L'.length ∧ Fr S w w' := by
  have h4 := hg.size
  have hcN := hg.count
  rw [hc, hN] at hcN
  obtain ⟨a, hsv⟩ := hr.any
  rw [hN] at hsv
  subst hsv
  obtain ⟨c0, c1, c2, c3⟩ := hr.hcell
  have p1 : ¬ ((n : Int) ≤ (N : Int)) := by omega
  have p2 : (2 : Int) * (N : Int) = (N2 : Int) := by omega
  have p3 : ¬ ((n : Int) < (N2 : Int)) := by omega
  have p4 : (n : Int) < (size : Int) := by omega
  have hMn : n ≤ n ∧ n ≤ size := by omega
  obtain ⟨hMn, hMs⟩ := hMn
  obtain ⟨i0, hi, hz0, hz1, hz2⟩ := info_parts info3
  have hmk : ∀ w : World, (Instr.makeSlice 34 (.int .i64 (n : Int)) (.int .i64 (n : Int))).run Try.prog w = .ok (.slice (some ⟨w.heap.size, 0, none⟩) n n) (w.alloc (.cells (madeCells #[.int .i64 0] n) 3)) := by
    intro w
    have := run_make (P := Try.prog) w 34 3 i0 _ Try.underlying34 hi hz0 .i64 .i64 n n (by omega) (by omega) (by rw [hz2]; omega) (by omega)
    simpa [hz1, Value.cells] using this
  have hRing : RingAt S w hb Q size := ⟨_, L, f, by rw [hc]; exact hr, hg, hS⟩
  have HS := Lib.hid (And.intro hr (And.intro hg (And.intro hS (And.intro hnew (And.intro hc (And.intro hN (And.intro h3 hRing)))))))
  have c2' : (w.alloc (.cells (madeCells #[.int .i64 0] n) 3)).cell? ⟨hb, 2, none⟩ = some (.int .i64 (c : Int)) := (hr.frNo (Fr.alloc No w _)).hcell.2.2.1
  clear hr hg hS hnew hc hN h2 h3 hRing hi hz0 hz1 hz2
  go_enter Try.func25, Try.ntmps25
  go_wp2_with fail
  go_region
  go_wp2_with fail
  obtain ⟨g, hgw⟩ : ∃ g, w.heap.size = g := ⟨_, rfl⟩
  obtain ⟨wy, hwy⟩ : ∃ wy, (w.alloc (.cells (madeCells #[.int .i64 0] n) 3)).drew = wy := ⟨_, rfl⟩
  have HY : Hid (wy.heap[g]? = some (.cells (ints (List.replicate n 0)).toArray 3 (0, 0)) ∧ Fr No w wy ∧ w.heap.size = g) := by
    subst hwy hgw
    rw [← made_ints]
    exact ⟨heap_alloc_new w _, (Fr.alloc No w _).trans (Fr.drew No _), rfl⟩
  rw [hwy, hgw]
  clear hwy c2' c0 c1 c2 c3 hmk hgw
  refine (peek_any S hb Q size c c c wy (HS.out.2.2.2.2.2.2.2.frNo HY.out.2.1) HS.out.2.2.2.2.1 (by omega)).mono ?_
  rintro e w1 ⟨pa, pc, rfl, hown1, hf1⟩
  rw [List.take_of_length_le (by have := HS.out.2.2.2.2.1; omega)] at hown1
  have hr1 := (HS.out.1.frNo HY.out.2.1).frNo hf1
  have hg1 := (hf1.block g (Array.getElem?_eq_some_iff.1 HY.out.1).1 (fun h => h)).trans HY.out.1
  have H1 := Lib.hid (And.intro hown1 (And.intro (HY.out.2.1.trans hf1) (And.intro hr1 hg1)))
  clear hown1 hf1 hr1 hg1
  have hL : (splice (List.replicate n (0 : Int)) 0 Q).length = n := by
    have := HS.out.2.2.2.2.1
    rw [length_splice _ _ _ (by simp; omega)]; simp
  have HL := Lib.hid hL
  clear hL
  have hgb : g ≠ hb := by
    have h1 := HS.out.1.lt
    have h2 := HY.out.2.2
    omega
  have X : Hid (∀ w2 : World, w2.heap[g]? = some (.cells (ints (splice (List.replicate n 0) 0 Q)).toArray 3 (0, 0)) → Fr (fun k => k = g) w1 w2 → Raw w2 hb (.slice a N N) L f c size) := by
    intro w2 h1 h2
    refine H1.out.2.2.1.fr h2 fun k hk e => ?_
    have h3 := HS.out.1.own_lt hk
    have h4 := HY.out.2.2
    omega
  go_wp2_with (first
    | (with_reducible refine wpList_copy_ints rfl (.tmp 26) (.tmp 32) rfl g 0 pa n n c pc rfl rfl (List.replicate n 0) H1.out.2.2.2 Q (by have := HS.out.2.2.2.2.1; rw [this]; exact (Nat.min_eq_left (by omega)).symm) (At.own H1.out.1) (by have := HS.out.2.2.2.2.1; simp; omega) ?_; intro w2 hg2 hf2; have H2 := Lib.hid (And.intro hg2 (And.intro hf2 (X.out w2 hg2 hf2))); have d0 := H2.out.2.2.hcell.1; have d1 := H2.out.2.2.hcell.2.1; have z0 := H2.out.2.2.hfrozen 0; have z1 := H2.out.2.2.hfrozen 1; clear hg2 hf2)
    | fail)
  refine bodyPost_end (results_none rfl _ _ _) rfl ?_
  obtain ⟨hg2, hf2, hr2⟩ := H2.out
  obtain ⟨hr, hg, hS, hnew, hc, hN, h3, -⟩ := HS.out
  have r3 := (hr2.setSlots hg2 hgb (by rw [HL.out]; omega)).setFirst 0
  rw [HL.out] at r3
  have hSg : S g := hnew g (by rw [HY.out.2.2]; exact Nat.le_refl _)
  have F2 : Fr S w w2 := (H1.out.2.1.no).trans (hf2.mono fun k _ hk => by rw [hk]; exact hSg)
  have hSh : S hb := hS hb (.inl rfl)
  refine ⟨rfl, _, _, 0, r3, view_new (by omega) (by omega) (by omega) (by omega), ?_, by rw [HL.out]; omega, (F2.trans (Fr.setCell _ _ _ _ hSh)).trans (Fr.setCell _ _ _ _ hSh)⟩
  rintro k (rfl | hk)
  · exact hSh
  · simp [Value.ownBlock] at hk
    rw [← hk]
    exact hSg

set_option maxHeartbeats 2000000 in
set_option maxRecDepth 100000 in
theorem reserve_b (S : Nat → Prop) (hb : Nat) (sv : Value) (Q L : List Int) (f c size n N N2 : Nat) (w : World) (hr : Raw w hb sv L f c size) (hg : Sound L f Q size) (hS : ∀ k, Own hb sv k → S k) (hnew : ∀ k, w.heap.size ≤ k → S k) (hc : Q.length = c) (hN : L.length = N) (hn : N < n) (hsz : n ≤ size) (h2 : N2 = 2 * N) (h3 : N2 ≤ n ∧ n = size) :
    Calls Try.prog 25 #[.pointer (some ⟨hb, 0, none⟩), .int .i64 n] w fun e w' => e = .returned (.tuple #[]) ∧ ∃ sv' L' f', Raw w' hb sv' L' f' c size ∧ Sound L' f' Q size ∧ (∀ k, Own hb sv' k → S k) ∧ n ≤ L'.length ∧ Fr S w w' := by
  have h4 := hg.size
  have hcN := hg.count
  rw [hc, hN] at hcN
  obtain ⟨a, hsv⟩ := hr.any
  rw [hN] at hsv
  subst hsv
  obtain ⟨c0, c1, c2, c3⟩ := hr.hcell
  have p1 : ¬ ((n : Int) ≤ (N : Int)) := by omega
  have p2 : (2 : Int) * (N : Int) = (N2 : Int) := by omega
  have p3 : ¬ ((n : Int) < (N2 : Int)) := by omega
  have p4 : ¬ ((n : Int) < (size : Int)) := by omega
  have hMn : n ≤ size ∧ size ≤ size := by omega
  obtain ⟨hMn, hMs⟩ := hMn
  obtain ⟨i0, hi, hz0, hz1, hz2⟩ := info_parts info3
  have hmk : ∀ w : World, (Instr.makeSlice 34 (.int .i64 (size : Int)) (.int .i64 (size : Int))).run Try.prog w = .ok (.slice (some ⟨w.heap.size, 0, none⟩) size size) (w.alloc (.cells (madeCells #[.int .i64 0] size) 3)) := by
    intro w
    have := run_make (P := Try.prog) w 34 3 i0 _ Try.underlying34 hi hz0 .i64 .i64 size size (by omega) (by omega) (by rw [hz2]; omega) (by omega)
    simpa [hz1, Value.cells] using this
  have hRing : RingAt S w hb Q size := ⟨_, L, f, by rw [hc]; exact hr, hg, hS⟩
  have HS := Lib.hid (And.intro hr (And.intro hg (And.intro hS (And.intro hnew (And.intro hc (And.intro hN (And.intro h3 hRing)))))))
  have c2' : (w.alloc (.cells (madeCells #[.int .i64 0] size) 3)).cell? ⟨hb, 2, none⟩ = some (.int .i64 (c : Int)) := (hr.frNo (Fr.alloc No w _)).hcell.2.2.1
  clear hr hg hS hnew hc hN h2 h3 hRing hi hz0 hz1 hz2
  go_enter Try.func25, Try.ntmps25
  go_wp2_with fail
  go_region
  go_wp2_with fail
  obtain ⟨g, hgw⟩ : ∃ g, w.heap.size = g := ⟨_, rfl⟩
  obtain ⟨wy, hwy⟩ : ∃ wy, (w.alloc (.cells (madeCells #[.int .i64 0] size) 3)).drew = wy := ⟨_, rfl⟩
  have HY : Hid (wy.heap[g]? = some (.cells (ints (List.replicate size 0)).toArray 3 (0, 0)) ∧ Fr No w wy ∧ w.heap.size = g) := by
    subst hwy hgw
    rw [← made_ints]
    exact ⟨heap_alloc_new w _, (Fr.alloc No w _).trans (Fr.drew No _), rfl⟩
  rw [hwy, hgw]
  clear hwy c2' c0 c1 c2 c3 hmk hgw
  refine (peek_any S hb Q size c c c wy (HS.out.2.2.2.2.2.2.2.frNo HY.out.2.1) HS.out.2.2.2.2.1 (by omega)).mono ?_
  rintro e w1 ⟨pa, pc, rfl, hown1, hf1⟩
  rw [List.take_of_length_le (by have := HS.out.2.2.2.2.1; omega)] at hown1
  have hr1 := (HS.out.1.frNo HY.out.2.1).frNo hf1
  have hg1 := (hf1.block g (Array.getElem?_eq_some_iff.1 HY.out.1).1 (fun h => h)).trans HY.out.1
  have H1 := Lib.hid (And.intro hown1 (And.intro (HY.out.2.1.trans hf1) (And.intro hr1 hg1)))
  clear hown1 hf1 hr1 hg1
  have hL : (splice (List.replicate size (0 : Int)) 0 Q).length = size := by
    have := HS.out.2.2.2.2.1
    rw [length_splice _ _ _ (by simp; omega)]; simp
  have HL := Lib.hid hL
  clear hL
  have hgb : g ≠ hb := by
    have h1 := HS.out.1.lt
    have h2 := HY.out.2.2
    omega
  have X : Hid (∀ w2 : World, w2.heap[g]? = some (.cells (ints (splice (List.replicate size 0) 0 Q)).toArray 3 (0, 0)) → Fr (fun k => k = g) w1 w2 → Raw w2 hb (.slice a N N) L f c size) := by
    intro w2 h1 h2
    refine H1.out.2.2.1.fr h2 fun k hk e => ?_
    have h3 := HS.out.1.own_lt hk
    have h4 := HY.out.2.2
    omega
  go_wp2_with (first
    | (with_reducible refine wpList_copy_ints rfl (.tmp 26) (.tmp 32) rfl g 0 pa size size c pc rfl rfl (List.replicate size 0) H1.out.2.2.2 Q (by have := HS.out.2.2.2.2.1; rw [this]; exact (Nat.min_eq_left (by omega)).symm) (At.own H1.out.1) (by have := HS.out.2.2.2.2.1; simp; omega) ?_; intro w2 hg2 hf2; have H2 := Lib.hid (And.intro hg2 (And.intro hf2 (X.out w2 hg2 hf2))); have d0 := H2.out.2.2.hcell.1; have d1 := H2.out.2.2.hcell.2.1; have z0 := H2.out.2.2.hfrozen 0; have z1 := H2.out.2.2.hfrozen 1; clear hg2 hf2)
    | fail)
  refine bodyPost_end (results_none rfl _ _ _) rfl ?_
  obtain ⟨hg2, hf2, hr2⟩ := H2.out
  obtain ⟨hr, hg, hS, hnew, hc, hN, h3, -⟩ := HS.out
  have r3 := (hr2.setSlots hg2 hgb (by rw [HL.out]; omega)).setFirst 0
  rw [HL.out] at r3
  have hSg : S g := hnew g (by rw [HY.out.2.2]; exact Nat.le_refl _)
  have F2 : Fr S w w2 := (H1.out.2.1.no).trans (hf2.mono fun k _ hk => by rw [hk]; exact hSg)
  have hSh : S hb := hS hb (.inl rfl)
  refine ⟨rfl, _, _, 0, r3, view_new (by omega) (by omega) (by omega) (by omega), ?_, by rw [HL.out]; omega, (F2.trans (Fr.setCell _ _ _ _ hSh)).trans (Fr.setCell _ _ _ _ hSh)⟩
  rintro k (rfl | hk)
  · exact hSh
  · simp [Value.ownBlock] at hk
    rw [← hk]
    exact hSg

set_option maxHeartbeats 2000000 in
set_option maxRecDepth 100000 in
theorem reserve_c (S : Nat → Prop) (hb : Nat) (sv : Value) (Q L : List Int) (f c size n N N2 : Nat) (w : World) (hr : Raw w hb sv L f c size) (hg : Sound L f Q size) (hS : ∀ k, Own hb sv k → S k) (hnew : ∀ k, w.heap.size ≤ k → S k) (hc : Q.length = c) (hN : L.length = N) (hn : N < n) (hsz : n ≤ size) (h2 : N2 = 2 * N) (h3 : n < N2 ∧ N2 < size) :
    Calls Try.prog 25 #[.pointer (some ⟨hb, 0, none⟩), .int .i64 n] w fun e w' => e = .returned (.tuple #[]) ∧ ∃ sv' L' f', Raw w' hb sv' L' f' c size ∧ Sound L' f' Q size ∧ (∀ k, Own hb sv' k → S k) ∧ n ≤ L'.length ∧ Fr S w w' := by
  have h4 := hg.size
  have hcN := hg.count
  rw [hc, hN] at hcN
  obtain ⟨a, hsv⟩ := hr.any
  rw [hN] at hsv
  subst hsv
  obtain ⟨c0, c1, c2, c3⟩ := hr.hcell
  have p1 : ¬ ((n : Int) ≤ (N : Int)) := by omega
  have p2 : (2 : Int) * (N : Int) = (N2 : Int) := by omega
  have p3 : (n : Int) < (N2 : Int) := by omega
  have p4 : (N2 : Int) < (size : Int) := by omega
  have hMn : n ≤ N2 ∧ N2 ≤ size := by omega
  obtain ⟨hMn, hMs⟩ := hMn
  obtain ⟨i0, hi, hz0, hz1, hz2⟩ := info_parts info3
  have hmk : ∀ w : World, (Instr.makeSlice 34 (.int .i64 (N2 : Int)) (.int .i64 (N2 : Int))).run Try.prog w = .ok (.slice (some ⟨w.heap.size, 0, none⟩) N2 N2) (w.alloc (.cells (madeCells #[.int .i64 0] N2) 3)) := by
    intro w
    have := run_make (P := Try.prog) w 34 3 i0 _ Try.underlying34 hi hz0 .i64 .i64 N2 N2 (by omega) (by omega) (by rw [hz2]; omega) (by omega)
    simpa [hz1, Value.cells] using this
  have hRing : RingAt S w hb Q size := ⟨_, L, f, by rw [hc]; exact hr, hg, hS⟩
  have HS := Lib.hid (And.intro hr (And.intro hg (And.intro hS (And.intro hnew (And.intro hc (And.intro hN (And.intro h3 hRing)))))))
  have c2' : (w.alloc (.cells (madeCells #[.int .i64 0] N2) 3)).cell? ⟨hb, 2, none⟩ = some (.int .i64 (c : Int)) := (hr.frNo (Fr.alloc No w _)).hcell.2.2.1
  clear hr hg hS hnew hc hN h2 h3 hRing hi hz0 hz1 hz2
  go_enter Try.func25, Try.ntmps25
  go_wp2_with fail
  go_region
  go_wp2_with fail
  obtain ⟨g, hgw⟩ : ∃ g, w.heap.size = g := ⟨_, rfl⟩
  obtain ⟨wy, hwy⟩ : ∃ wy, (w.alloc (.cells (madeCells #[.int .i64 0] N2) 3)).drew = wy := ⟨_, rfl⟩
  have HY : Hid (wy.heap[g]? = some (.cells (ints (List.replicate N2 0)).toArray 3 (0, 0)) ∧ Fr No w wy ∧ w.heap.size = g) := by
    subst hwy hgw
    rw [← made_ints]
    exact ⟨heap_alloc_new w _, (Fr.alloc No w _).trans (Fr.drew No _), rfl⟩
  rw [hwy, hgw]
  clear hwy c2' c0 c1 c2 c3 hmk hgw
  refine (peek_any S hb Q size c c c wy (HS.out.2.2.2.2.2.2.2.frNo HY.out.2.1) HS.out.2.2.2.2.1 (by omega)).mono ?_
  rintro e w1 ⟨pa, pc, rfl, hown1, hf1⟩
  rw [List.take_of_length_le (by have := HS.out.2.2.2.2.1; omega)] at hown1
  have hr1 := (HS.out.1.frNo HY.out.2.1).frNo hf1
  have hg1 := (hf1.block g (Array.getElem?_eq_some_iff.1 HY.out.1).1 (fun h => h)).trans HY.out.1
  have H1 := Lib.hid (And.intro hown1 (And.intro (HY.out.2.1.trans hf1) (And.intro hr1 hg1)))
  clear hown1 hf1 hr1 hg1
  have hL : (splice (List.replicate N2 (0 : Int)) 0 Q).length = N2 := by
    have := HS.out.2.2.2.2.1
    rw [length_splice _ _ _ (by simp; omega)]; simp
  have HL := Lib.hid hL
  clear hL
  have hgb : g ≠ hb := by
    have h1 := HS.out.1.lt
    have h2 := HY.out.2.2
    omega
  have X : Hid (∀ w2 : World, w2.heap[g]? = some (.cells (ints (splice (List.replicate N2 0) 0 Q)).toArray 3 (0, 0)) → Fr (fun k => k = g) w1 w2 → Raw w2 hb (.slice a N N) L f c size) := by
    intro w2 h1 h2
    refine H1.out.2.2.1.fr h2 fun k hk e => ?_
    have h3 := HS.out.1.own_lt hk
    have h4 := HY.out.2.2
    omega
  go_wp2_with (first
    | (with_reducible refine wpList_copy_ints rfl (.tmp 26) (.tmp 32) rfl g 0 pa N2 N2 c pc rfl rfl (List.replicate N2 0) H1.out.2.2.2 Q (by have := HS.out.2.2.2.2.1; rw [this]; exact (Nat.min_eq_left (by omega)).symm) (At.own H1.out.1) (by have := HS.out.2.2.2.2.1; simp; omega) ?_; intro w2 hg2 hf2; have H2 := Lib.hid (And.intro hg2 (And.intro hf2 (X.out w2 hg2 hf2))); have d0 := H2.out.2.2.hcell.1; have d1 := H2.out.2.2.hcell.2.1; have z0 := H2.out.2.2.hfrozen 0; have z1 := H2.out.2.2.hfrozen 1; clear hg2 hf2)
    | fail)
  refine bodyPost_end (results_none rfl _ _ _) rfl ?_
  obtain ⟨hg2, hf2, hr2⟩ := H2.out
  obtain ⟨hr, hg, hS, hnew, hc, hN, h3, -⟩ := HS.out
  have r3 := (hr2.setSlots hg2 hgb (by rw [HL.out]; omega)).setFirst 0
  rw [HL.out] at r3
  have hSg : S g := hnew g (by rw [HY.out.2.2]; exact Nat.le_refl _)
  have F2 : Fr S w w2 := (H1.out.2.1.no).trans (hf2.mono fun k _ hk => by rw [hk]; exact hSg)
  have hSh : S hb := hS hb (.inl rfl)
  refine ⟨rfl, _, _, 0, r3, view_new (by omega) (by omega) (by omega) (by omega), ?_, by rw [HL.out]; omega, (F2.trans (Fr.setCell _ _ _ _ hSh)).trans (Fr.setCell _ _ _ _ hSh)⟩
  rintro k (rfl | hk)
  · exact hSh
  · simp [Value.ownBlock] at hk
    rw [← hk]
    exact hSg

set_option maxHeartbeats 2000000 in
set_option maxRecDepth 100000 in
theorem reserve_d (S : Nat → Prop) (hb : Nat) (sv : Value) (Q L : List Int) (f c size n N N2 : Nat) (w : World) (hr : Raw w hb sv L f c size) (hg : Sound L f Q size) (hS : ∀ k, Own hb sv k → S k) (hnew : ∀ k, w.heap.size ≤ k → S k) (hc : Q.length = c) (hN : L.length = N) (hn : N < n) (hsz : n ≤ size) (h2 : N2 = 2 * N) (h3 : n < N2 ∧ size ≤ N2) :
    Calls Try.prog 25 #[.pointer (some ⟨hb, 0, none⟩), .int .i64 n] w fun e w' => e = .returned (.tuple #[]) ∧ ∃ sv' L' f', Raw w' hb sv' L' f' c size ∧ Sound L' f' Q size ∧ (∀ k, Own hb sv' k → S k) ∧ n ≤ L'.length ∧ Fr S w w' := by
  have h4 := hg.size
  have hcN := hg.count
  rw [hc, hN] at hcN
  obtain ⟨a, hsv⟩ := hr.any
  rw [hN] at hsv
  subst hsv
  obtain ⟨c0, c1, c2, c3⟩ := hr.hcell
  have p1 : ¬ ((n : Int) ≤ (N : Int)) := by omega
  have p2 : (2 : Int) * (N : Int) = (N2 : Int) := by omega
  have p3 : (n : Int) < (N2 : Int) := by omega
  have p4 : ¬ ((N2 : Int) < (size : Int)) := by omega
  have hMn : n ≤ size ∧ size ≤ size := by omega
  obtain ⟨hMn, hMs⟩ := hMn
  obtain ⟨i0, hi, hz0, hz1, hz2⟩ := info_parts info3
  have hmk : ∀ w : World, (Instr.makeSlice 34 (.int .i64 (size : Int)) (.int .i64 (size : Int))).run Try.prog w = .ok (.slice (some ⟨w.heap.size, 0, none⟩) size size) (w.alloc (.cells (madeCells #[.int .i64 0] size) 3)) := by
    intro w
    have := run_make (P := Try.prog) w 34 3 i0 _ Try.underlying34 hi hz0 .i64 .i64 size size (by omega) (by omega) (by rw [hz2]; omega) (by omega)
    simpa [hz1, Value.cells] using this
  have hRing : RingAt S w hb Q size := ⟨_, L, f, by rw [hc]; exact hr, hg, hS⟩
  have HS := Lib.hid (And.intro hr (And.intro hg (And.intro hS (And.intro hnew (And.intro hc (And.intro hN (And.intro h3 hRing)))))))
  have c2' : (w.alloc (.cells (madeCells #[.int .i64 0] size) 3)).cell? ⟨hb, 2, none⟩ = some (.int .i64 (c : Int)) := (hr.frNo (Fr.alloc No w _)).hcell.2.2.1
  clear hr hg hS hnew hc hN h2 h3 hRing hi hz0 hz1 hz2
  go_enter Try.func25, Try.ntmps25
  go_wp2_with fail
  go_region
  go_wp2_with fail
  obtain ⟨g, hgw⟩ : ∃ g, w.heap.size = g := ⟨_, rfl⟩
  obtain ⟨wy, hwy⟩ : ∃ wy, (w.alloc (.cells (madeCells #[.int .i64 0] size) 3)).drew = wy := ⟨_, rfl⟩
  have HY : Hid (wy.heap[g]? = some (.cells (ints (List.replicate size 0)).toArray 3 (0, 0)) ∧ Fr No w wy ∧ w.heap.size = g) := by
    subst hwy hgw
    rw [← made_ints]
    exact ⟨heap_alloc_new w _, (Fr.alloc No w _).trans (Fr.drew No _), rfl⟩
  rw [hwy, hgw]
  clear hwy c2' c0 c1 c2 c3 hmk hgw
  refine (peek_any S hb Q size c c c wy (HS.out.2.2.2.2.2.2.2.frNo HY.out.2.1) HS.out.2.2.2.2.1 (by omega)).mono ?_
  rintro e w1 ⟨pa, pc, rfl, hown1, hf1⟩
  rw [List.take_of_length_le (by have := HS.out.2.2.2.2.1; omega)] at hown1
  have hr1 := (HS.out.1.frNo HY.out.2.1).frNo hf1
  have hg1 := (hf1.block g (Array.getElem?_eq_some_iff.1 HY.out.1).1 (fun h => h)).trans HY.out.1
  have H1 := Lib.hid (And.intro hown1 (And.intro (HY.out.2.1.trans hf1) (And.intro hr1 hg1)))
  clear hown1 hf1 hr1 hg1
  have hL : (splice (List.replicate size (0 : Int)) 0 Q).length = size := by
    have := HS.out.2.2.2.2.1
    rw [length_splice _ _ _ (by simp; omega)]; simp
  have HL := Lib.hid hL
  clear hL
  have hgb : g ≠ hb := by
    have h1 := HS.out.1.lt
    have h2 := HY.out.2.2
    omega
  have X : Hid (∀ w2 : World, w2.heap[g]? = some (.cells (ints (splice (List.replicate size 0) 0 Q)).toArray 3 (0, 0)) → Fr (fun k => k = g) w1 w2 → Raw w2 hb (.slice a N N) L f c size) := by
    intro w2 h1 h2
    refine H1.out.2.2.1.fr h2 fun k hk e => ?_
    have h3 := HS.out.1.own_lt hk
    have h4 := HY.out.2.2
    omega
  go_wp2_with (first
    | (with_reducible refine wpList_copy_ints rfl (.tmp 26) (.tmp 32) rfl g 0 pa size size c pc rfl rfl (List.replicate size 0) H1.out.2.2.2 Q (by have := HS.out.2.2.2.2.1; rw [this]; exact (Nat.min_eq_left (by omega)).symm) (At.own H1.out.1) (by have := HS.out.2.2.2.2.1; simp; omega) ?_; intro w2 hg2 hf2; have H2 := Lib.hid (And.intro hg2 (And.intro hf2 (X.out w2 hg2 hf2))); have d0 := H2.out.2.2.hcell.1; have d1 := H2.out.2.2.hcell.2.1; have z0 := H2.out.2.2.hfrozen 0; have z1 := H2.out.2.2.hfrozen 1; clear hg2 hf2)
    | fail)
  refine bodyPost_end (results_none rfl _ _ _) rfl ?_
  obtain ⟨hg2, hf2, hr2⟩ := H2.out
  obtain ⟨hr, hg, hS, hnew, hc, hN, h3, -⟩ := HS.out
  have r3 := (hr2.setSlots hg2 hgb (by rw [HL.out]; omega)).setFirst 0
  rw [HL.out] at r3
  have hSg : S g := hnew g (by rw [HY.out.2.2]; exact Nat.le_refl _)
  have F2 : Fr S w w2 := (H1.out.2.1.no).trans (hf2.mono fun k _ hk => by rw [hk]; exact hSg)
  have hSh : S hb := hS hb (.inl rfl)
  refine ⟨rfl, _, _, 0, r3, view_new (by omega) (by omega) (by omega) (by omega), ?_, by rw [HL.out]; omega, (F2.trans (Fr.setCell _ _ _ _ hSh)).trans (Fr.setCell _ _ _ _ hSh)⟩
  rintro k (rfl | hk)
  · exact hSh
  · simp [Value.ownBlock] at hk
    rw [← hk]
    exact hSg

theorem reserve_any (S : Nat → Prop) (hb : Nat) (Q : List Int) (size c n : Nat) (w : World) (hR : RingAt S w hb Q size) (hnew : ∀ k, w.heap.size ≤ k → S k) (hc : Q.length = c) (hsz : n ≤ size) :
    Calls Try.prog 25 #[.pointer (some ⟨hb, 0, none⟩), .int .i64 n] w fun e w' => e = .returned (.tuple #[]) ∧ ∃ sv' L' f', Raw w' hb sv' L' f' c size ∧ Sound L' f' Q size ∧ (∀ k, Own hb sv' k → S k) ∧ n ≤ L'.length ∧ Fr S w w' := by
  obtain ⟨sv, L, f, hr, hg, hS⟩ := hR
  rw [hc] at hr
  by_cases h1 : n ≤ L.length
  · refine (reserve_stay hb sv L f c size n L.length w hr rfl (Nat.le_trans hg.len hg.size) h1).mono ?_
    rintro e w' ⟨rfl, rfl⟩
    exact ⟨rfl, sv, L, f, hr, hg, hS, h1, Fr.refl _ _⟩
  · by_cases h2 : n < 2 * L.length
    · by_cases h3 : 2 * L.length < size
      · exact reserve_c S hb sv Q L f c size n L.length _ w hr hg hS hnew hc rfl (by omega) hsz rfl ⟨h2, h3⟩
      · exact reserve_d S hb sv Q L f c size n L.length _ w hr hg hS hnew hc rfl (by omega) hsz rfl ⟨h2, by omega⟩
    · by_cases h3 : n < size
      · exact reserve_a S hb sv Q L f c size n L.length _ w hr hg hS hnew hc rfl (by omega) hsz rfl ⟨by omega, h3⟩
      · exact reserve_b S hb sv Q L f c size n L.length _ w hr hg hS hnew hc rfl (by omega) hsz rfl ⟨by omega, by omega⟩

end Go.Proofs.Ytmgpeonnmfidhaa
