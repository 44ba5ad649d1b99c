/-
  CONTRACTS of Alloc of the arena of integers, over this seat's translation: what each call returns, what it leaves in memory.
  Conditions: the arena lies in memory as ArenaAt says; generations are small.
-/
import Derived.Test.YtgelgnakhghpkaaI3
import Derived.Test.YtgelgnakhghpkaaPut
namespace Go.Proofs.Ytgelgnakhghpkaa.I
open Go.ChangeShapes Go.WideShapes Go.ChangeAt Go.RowKit
set_option linter.unusedVariables false

set_option maxHeartbeats 1000000 in
set_option maxRecDepth 100000 in
theorem alloc_full (S : Nat → Prop) (hb : Nat) (A : List Slot) (size : Nat) (B : Int) (x : Int) (w : World) (h : AI S w hb A size B) (hc : cnt A = size) :
    Calls Try.prog 14 #[.pointer (some ⟨hb, 0, none⟩), (.int .i64 x)] w fun e w' => e = .returned (.tuple #[.agg #[.int .i64 0, .int .i64 0], .bool false]) ∧ Fr No w w' := by
  obtain ⟨⟨sv, hr, _⟩, hg⟩ := h
  have hs4 := hg.size
  have hr1 := hr.frNo (Fr.alloc No w (.cells #[.int .i64 0, .int .i64 0] 38))
  obtain ⟨c0, c1, c2⟩ := hr1.hcell
  rw [hc] at c2
  clear hr hr1 hg hc
  go_enter Try.func14, Try.ntmps14
  go_wp2_with fail
  go_quiet (fail)
  go_wp2_with fail
  obtain ⟨k0, k1⟩ := two_cells (w := (w.alloc (.cells #[.int .i64 0, .int .i64 0] 38)).drewN nq) (rb := w.heap.size) (a := .int .i64 0) (b := .int .i64 0) (t := 38) (heap_alloc_new w _) (.int .i64 0) (.int .i64 0)
  refine bodyPost_ret_by (results_hd rfl _ (b := w.heap.size) (x := .int .i64 0) (y := .int .i64 0) (Try.isAgg38 _) (Try.sizeOf38 _) rfl k0 k1) rfl ?_
  exact ⟨rfl, ((Fr.alloc No w _).trans (Fr.drewN No _ nq)).ofNew (two_fr _ _) fun k hk => .inr (by omega)⟩

theorem row_new {w : World} {g n cap : Nat} {A : List Slot} (h : w.ownsRow 0 73 3 (.slice (some ⟨g, 0, none⟩) (n + 1) cap) (n + 1) (flat A ++ enc ⟨false, 0, zs⟩)) (hw : Wide 3 A) (hn : A.length = n) :
    w.cell? ⟨g, n * 3, none⟩ = some (.bool false) ∧ w.cell? ⟨g, n * 3 + 1, none⟩ = some (.int .i64 0) ∧ w.cell? ⟨g, n * 3 + 2, none⟩ = some (.int .i64 0) := by
  have hl : (flat A).length = n * 3 := by rw [flat_length hw, hn]
  have key : ∀ j v, j < 3 → (enc ⟨false, 0, zs⟩)[j]? = some v → w.cell? ⟨g, n * 3 + j, none⟩ = some v := by
    intro j v hj hv
    rw [h.cellAt _ (by omega), List.getElem?_append_right (by omega), hl, Nat.add_sub_cancel_left]
    exact hv
  exact ⟨key 0 _ (by omega) rfl, key 1 _ (by omega) rfl, key 2 _ (by omega) rfl⟩

theorem infoE : (Try.prog.info? 73).map (fun i => (i.zero, i.size, i.bytes)) = some (some (.agg #[.bool false, .int .i64 0, .int .i64 0]), 3, 24) := by kernel_rfl

set_option maxHeartbeats 2000000 in
set_option maxRecDepth 100000 in
theorem alloc_ok (S : Nat → Prop) (hb : Nat) (A : List Slot) (size : Nat) (B : Int) (x : Int) (w : World) (h : AI S w hb A size B) (hS : ∀ k, w.heap.size ≤ k → S k) (hc : cnt A < size) (hB : 0 ≤ B ∧ B ≤ 1000) :
    Calls Try.prog 14 #[.pointer (some ⟨hb, 0, none⟩), (.int .i64 x)] w fun e w' => ∃ (i : Nat) (gn : Int) (A' : List Slot), e = .returned (.tuple #[.agg #[.int .i64 i, .int .i64 gn], .bool true]) ∧ Put A i gn [.int .i64 x] A' ∧ AI S w' hb A' size (B + 1) ∧ Fr S w w' := by
  obtain ⟨⟨sv, hr, hO⟩, hg⟩ := h
  have hs4 := hg.size
  have hl4 : A.length ≤ 4096 := Nat.le_trans hg.len hs4
  obtain ⟨a, cap, rfl⟩ := hr.any
  have hF : Fr No w (w.alloc (.cells #[.int .i64 0, .int .i64 0] 38)) := Fr.alloc No w _
  have hB0 : (w.alloc (.cells #[.int .i64 0, .int .i64 0] 38)).heap[w.heap.size]? = some (.cells #[.int .i64 0, .int .i64 0] 38 (0, 0)) := heap_alloc_new w _
  have hr0 := hr.frNo hF
  obtain ⟨c0, c1, c2⟩ := hr0.hcell
  obtain ⟨n, hn⟩ : ∃ n, A.length = n := ⟨_, rfl⟩
  obtain ⟨c, hcc⟩ : ∃ c, cnt A = c := ⟨_, rfl⟩
  rw [hn] at c0 hr0 hl4 hO
  rw [hcc] at c2 hc
  have hne : ((c : Int) == (size : Int)) = false := by simp; omega
  have hown : ∀ k, Own hb (.slice a n cap) k → k < w.heap.size := fun k hk => hr.own_lt (by rw [hn]; exact hk)
  have hrow : w.ownsRow 0 73 3 (.slice a n cap) n (flat A) := by have := hr.row; rw [hn] at this; exact this
  have HS := Lib.hid (And.intro hr0 (And.intro hn (And.intro hcc (And.intro hO (And.intro hg (And.intro hF (And.intro hB0 (And.intro hS hown))))))))
  clear hr hr0 hn hcc hO hg hF hB0 hS hown hrow
  go_enter Try.func14, Try.ntmps14
  go_wp2_with fail
  go_quiet (fail)
  go_wp2_with fail
  refine (firstFree_any hb _ A size _ (HS.out.1.frNo (Fr.drewN No _ nq)) (by have := HS.out.2.1; omega)).mono ?_
  rintro e w1 ⟨i, rfl, hfree, hf1⟩
  obtain ⟨rb, hrb⟩ : ∃ rb, rb = w.heap.size := ⟨_, rfl⟩
  have hF1 : Fr No w w1 := (HS.out.2.2.2.2.2.1.trans (Fr.drewN No _ nq)).trans hf1
  have hB1 : w1.heap[rb]? = some (.cells #[.int .i64 0, .int .i64 0] 38 (0, 0)) := by rw [hrb]; exact (hf1.block _ (Array.getElem?_eq_some_iff.1 HS.out.2.2.2.2.2.2.1).1 (fun h => h)).trans HS.out.2.2.2.2.2.2.1
  have hr1 : RA w1 hb (.slice a n cap) A size (cnt A) := (HS.out.1.frNo (Fr.drewN No _ nq)).frNo hf1
  rw [← hrb]
  have r0 : w1.cell? ⟨rb, 0, none⟩ = some (.int .i64 0) := by rw [cell_of_row _ _ 0 _ _ _ hB1]; rfl
  have r1 : w1.cell? ⟨rb, 1, none⟩ = some (.int .i64 0) := by rw [cell_of_row _ _ 1 _ _ _ hB1]; rfl
  have z0 : w1.frozen? ⟨rb, 0, none⟩ = false := frozen_of_row _ _ _ _ _ hB1
  have z1 : w1.frozen? ⟨rb, 1, none⟩ = false := frozen_of_row _ _ _ _ _ hB1
  clear c0 c1 c2
  obtain ⟨c0, c1, c2⟩ := hr1.hcell
  rw [HS.out.2.2.1] at c2
  have fc := hr1.hfrozen 2
  have f00 := hr1.hfrozen 0
  have hbr : hb ≠ rb := by have := HS.out.2.2.2.2.2.2.2.2 hb (.inl rfl); omega
  have hrbb : rb ≠ hb := Ne.symm hbr
  have hcs : c ≤ 4096 := by omega
  by_cases hin : i < n
  · obtain ⟨s, gs, gu⟩ := hfree.2.1 (by have := HS.out.2.1; omega)
    obtain ⟨g, cap', hv⟩ := hr1.form (by have := HS.out.2.1; omega)
    obtain rfl : a = some ⟨g, 0, none⟩ := by cases hv; rfl
    have e0 := hr1.ecells gs 0 _ rfl
    have e1 := hr1.ecells gs 1 _ rfl
    have hval := HS.out.2.2.2.2.1.val s (List.mem_of_getElem? gs)
    have hgen := HS.out.2.2.2.2.1.gen s (List.mem_of_getElem? gs)
    obtain ⟨su, sg, sval⟩ := s
    simp only at gu e0 e1 hval hgen
    subst gu
    obtain ⟨ox, rfl⟩ := hval
    have e2 := hr1.ecells gs 2 _ rfl
    rw [Nat.add_zero] at e0
    have f0 := hr1.efrozen HS.out.2.1 (i * 3)
    have f1 := hr1.efrozen HS.out.2.1 (i * 3 + 1)
    have f2 := hr1.efrozen HS.out.2.1 (i * 3 + 2)
    have hgb : g ≠ hb := fun e => hr1.apart (by simp [Value.ownBlock, e])
    have hbg : hb ≠ g := Ne.symm hgb
    have hgr : g ≠ rb := by have := HS.out.2.2.2.2.2.2.2.2 g own_row; omega
    have hrg : rb ≠ g := Ne.symm hgr
    have n01 : i * 3 ≠ i * 3 + 1 := by omega
    have n10 : i * 3 + 1 ≠ i * 3 := by omega
    have q1 : (0 : Int) ≤ (i : Int) := by omega
    have q2 : (i : Int) < (n : Int) := by omega
    have q3 : ((i : Int) == (n : Int)) = false := by simp; omega
    have HR1 := Lib.hid (And.intro hr1 (And.intro gs (And.intro hF1 (And.intro hfree (And.intro hB1 hrb)))))
    clear hr1 gs hF1 hfree hf1 hB1 hv hrb
    go_wp2_with fail
    obtain ⟨hr1, gs, hF1, hfree, hB1, hrb⟩ := HR1.out
    obtain ⟨-, hn, hcc, hO, hg, -, -, hS, hown⟩ := HS.out
    have ra := hr1.put hn (j := 0) (v := .bool true) (s' := ⟨true, sg, [.int .i64 ox]⟩) gs rfl (by omega)
    have rb1 := ra.put (by simpa using hn) (i := i) (j := 1) (v := .int .i64 (sg + 1)) (s := ⟨true, sg, [.int .i64 ox]⟩) (s' := ⟨true, sg + 1, [.int .i64 ox]⟩) (set_get gs) rfl (by omega)
    have rc := rb1.put (by simpa using hn) (i := i) (j := 2) (v := (.int .i64 x)) (s := ⟨true, sg + 1, [.int .i64 ox]⟩) (s' := ⟨true, sg + 1, [.int .i64 x]⟩) (set_get (set_get gs)) rfl (by omega)
    have rd := rc.setCount (c + 1 : Int)
    have hFz := ((hF1.no (S := S)).trans (Fr.setCell S _ ⟨g, i * 3, none⟩ (.bool true) (hO g own_row))).trans (Fr.setCell S _ ⟨g, i * 3 + 1, none⟩ (.int .i64 (sg + 1)) (hO g own_row))
    have hFy := (hFz.trans (Fr.setCell S _ ⟨g, i * 3 + 2, none⟩ (.int .i64 x) (hO g own_row))).trans (Fr.setCell S _ ⟨hb, 2, none⟩ (.int .i64 (c + 1 : Int)) (hO hb (.inl rfl)))
    have hB2 := hB1
    rw [← heap_setCell_other w1 ⟨g, i * 3, none⟩ rb (.bool true) hrg, ← heap_setCell_other _ ⟨g, i * 3 + 1, none⟩ rb (.int .i64 (sg + 1)) hrg] at hB2
    rw [← heap_setCell_other _ ⟨g, i * 3 + 2, none⟩ rb (.int .i64 x) hrg] at hB2
    rw [← heap_setCell_other _ ⟨hb, 2, none⟩ rb (.int .i64 (c + 1 : Int)) hrbb] at hB2
    obtain ⟨k0, k1⟩ := two_cells hB2 (.int .i64 i) (.int .i64 (sg + 1))
    simp only [List.set_set, Nat.add_zero] at rd
    have hput : Put A i (sg + 1) [.int .i64 x] (A.set i ⟨true, sg + 1, [.int .i64 x]⟩) := ⟨hfree, .inl ⟨_, gs, rfl, rfl, rfl⟩⟩
    have re := rd.fr (two_fr (rb := rb) (.int .i64 i) (.int .i64 (sg + 1))) (fun k hk e => by have := hown k hk; omega)
    refine bodyPost_ret_by (results_hd rfl _ (b := rb) (x := .int .i64 i) (y := .int .i64 (sg + 1)) (Try.isAgg38 _) (Try.sizeOf38 _) rfl k0 k1) rfl ?_
    refine ⟨i, sg + 1, _, rfl, hput, ⟨⟨_, ?_, hO⟩, ⟨?_, ?_, by simpa using hg.len, hg.size⟩⟩, hFy.ofNew (two_fr _ _) fun k hk => .inr (by omega)⟩
    · rw [hput.cnt, hcc]; exact re
    · intro s hs
      rcases List.mem_or_eq_of_mem_set hs with h1 | rfl
      · have := hg.gen s h1; omega
      · simp only; omega
    · intro s hs
      rcases List.mem_or_eq_of_mem_set hs with h1 | rfl
      · exact hg.val s h1
      · exact ⟨_, rfl⟩
  · have hni : i = n := by have h1 := hfree.2.2; have h2 := HS.out.2.1; omega
    subst hni
    obtain ⟨i0, hi0, hz0, hz1, hz2⟩ := info_parts infoE
    have HROW : Hid (w1.ownsRow 0 73 3 (.slice a i cap) i (flat A)) := by have := hr1.row; rw [HS.out.2.1] at this; exact this
    have HONE : Hid (∀ u ∈ enc ⟨false, 0, zs⟩, u.oneCell' = true) := by intro u hu; simp [enc, zs] at hu; rcases hu with rfl | rfl | rfl <;> rfl
    have hlt1 := hr1.lt
    have hrlt : rb < w1.heap.size := (Array.getElem?_eq_some_iff.1 hB1).1
    have HN1 : Hid (some hb ≠ (Value.slice a i cap).ownBlock ∧ some rb ≠ (Value.slice a i cap).ownBlock) := ⟨fun e => hr1.apart e.symm, fun e => by have := HS.out.2.2.2.2.2.2.2.2 rb (.inr e.symm); omega⟩
    have HR1 := Lib.hid (And.intro hr1 (And.intro hF1 (And.intro hfree (And.intro hB1 hrb))))
    clear hr1 hF1 hfree hf1 hB1 hrb hin
    have n01 : i * 3 ≠ i * 3 + 1 := by omega
    have n10 : i * 3 + 1 ≠ i * 3 := by omega
    have q1 : (0 : Int) ≤ (i : Int) := by omega
    have q2 : (i : Int) < (i : Int) + 1 := by omega
    go_wp2_with (first | (at_builtin; refine wpList_append_lies _ rfl (.tmp 31) (.tmp 33) 62 rfl 0 73 i0 _ 3 24 Try.underlying62 hi0 hz0 hz1 hz2 rfl (by omega) (.slice a i cap) i (flat A) rfl (HROW.out.alloc _) ⟨w1.heap.size, 0, none⟩ 1 1 (enc ⟨false, 0, zs⟩) rfl rfl (World.news_of_block (cs := #[.bool false, .int .i64 0, .int .i64 0]) (t := 73) (fr := (0, 0)) (heap_alloc_new w1 _)) HONE.out (by omega) (by unfold maxLen; omega) (by omega) (by simp) (w1.heap.size + 1) (by simp) ?_; intro g cap' w2 hown hgrow hat hlt; have hblk : w2.heap[hb]? = w1.heap[hb]? := (hgrow.block hb (by simp; omega) HN1.out.1).trans (Below.heap_alloc w1 _ hb hlt1); have hrblk : w2.heap[rb]? = w1.heap[rb]? := (hgrow.block rb (by simp; omega) HN1.out.2).trans (Below.heap_alloc w1 _ rb hrlt); have k0 := (World.cell?_of_block (a := ⟨hb, 0, none⟩) hblk).trans c0; have k1 := (World.frozen?_of_block (a := ⟨hb, 0, none⟩) hblk).trans f00; have k2 := (World.cell?_of_block (a := ⟨hb, 2, none⟩) hblk).trans c2; have k3 := (World.frozen?_of_block (a := ⟨hb, 2, none⟩) hblk).trans fc;  have m0 := (World.cell?_of_block (a := ⟨rb, 0, none⟩) hrblk).trans r0; have m1 := (World.cell?_of_block (a := ⟨rb, 1, none⟩) hrblk).trans r1; have m2 := (World.frozen?_of_block (a := ⟨rb, 0, none⟩) hrblk).trans z0; have m3 := (World.frozen?_of_block (a := ⟨rb, 1, none⟩) hrblk).trans z1; obtain ⟨e0, e1, e2⟩ := row_new hown HR1.out.1.wide HS.out.2.1; have f0 := hown.frozenAt (i * 3); have f1 := hown.frozenAt (i * 3 + 1); have f2 := hown.frozenAt (i * 3 + 2);  have hgb : g ≠ hb := (fun e => by subst e; rcases hat with h1 | h1; exact HN1.out.1 h1.symm; omega); have hbg := Ne.symm hgb; have hgr : g ≠ rb := (fun e => by subst e; rcases hat with h1 | h1; exact HN1.out.2 h1.symm; omega); have hrg := Ne.symm hgr; have HB := Lib.hid (And.intro hown (And.intro hgrow (And.intro hat (And.intro hlt hrblk)))); clear hown hgrow hat hlt hblk hrblk) | fail)
    obtain ⟨hr1, hF1, hfree, hB1, hrb⟩ := HR1.out
    obtain ⟨-, hn, hcc, hO, hg, -, -, hS, hownlt⟩ := HS.out
    obtain ⟨hown, hgrow, hat, hlt, hrblk⟩ := HB.out
    have hat' : (Value.slice a i cap).ownBlock = some g ∨ w1.heap.size ≤ g := by
      rcases hat with h1 | h1
      · exact .inl h1
      · right; omega
    have hO' : ∀ k, Own hb (.slice (some ⟨g, 0, none⟩) (i + 1) cap') k → S k := by
      rintro k (rfl | hk)
      · exact hO _ (.inl rfl)
      · simp [Value.ownBlock] at hk
        subst hk
        rcases hat' with h1 | h1
        · exact hO _ (.inr h1)
        · exact hS _ (Nat.le_trans hF1.size h1)
    have rz : RA (w2.setCell ⟨hb, 0, none⟩ (.slice (some ⟨g, 0, none⟩) (i + 1) cap')) hb (.slice (some ⟨g, 0, none⟩) (i + 1) cap') (A ++ [⟨false, 0, zs⟩]) size (cnt A) := by
      have := (hr1.frNo (Fr.alloc No w1 (.cells #[.bool false, .int .i64 0, .int .i64 0] 73))).append (g := g) (cap := cap') ⟨false, 0, zs⟩ rfl hgrow (by rw [hn]; exact hown) (by rcases hat with h1 | h1; exact .inl h1; right; rw [h1]; simp)
      rw [hn] at this
      exact this
    have hn' : (A ++ [(⟨false, 0, zs⟩ : Slot)]).length = i + 1 := by simp [hn]
    have gs : (A ++ [(⟨false, 0, zs⟩ : Slot)])[i]? = some ⟨false, 0, zs⟩ := by rw [List.getElem?_append_right (by omega), hn, Nat.sub_self]; rfl
    have ra := rz.put hn' (j := 0) (v := .bool true) (s' := ⟨true, 0, zs⟩) gs rfl (by omega)
    have rb1 := ra.put (by simpa using hn') (i := i) (j := 1) (v := .int .i64 1) (s := ⟨true, 0, zs⟩) (s' := ⟨true, 1, zs⟩) (set_get gs) rfl (by omega)
    have rc := rb1.put (by simpa using hn') (i := i) (j := 2) (v := (.int .i64 x)) (s := ⟨true, 1, zs⟩) (s' := ⟨true, 1, [.int .i64 x]⟩) (set_get (set_get gs)) rfl (by omega)
    have rd := rc.setCount (c + 1 : Int)
    have hFg : Fr S w w2 := (hF1.no.trans (Fr.alloc S w1 (.cells #[.bool false, .int .i64 0, .int .i64 0] 73))).trans (Fr.grown hgrow fun k hk => hO k (.inr hk))
    have hFz := ((hFg.trans (Fr.setCell S _ ⟨hb, 0, none⟩ (.slice (some ⟨g, 0, none⟩) (i + 1) cap') (hO hb (.inl rfl)))).trans (Fr.setCell S _ ⟨g, i * 3, none⟩ (.bool true) (hO' g own_row))).trans (Fr.setCell S _ ⟨g, i * 3 + 1, none⟩ (.int .i64 1) (hO' g own_row))
    have hFy := (hFz.trans (Fr.setCell S _ ⟨g, i * 3 + 2, none⟩ (.int .i64 x) (hO' g own_row))).trans (Fr.setCell S _ ⟨hb, 2, none⟩ (.int .i64 (c + 1 : Int)) (hO hb (.inl rfl)))
    have hB2 := hrblk.trans hB1
    rw [← heap_setCell_other w2 ⟨hb, 0, none⟩ rb (.slice (some ⟨g, 0, none⟩) (i + 1) cap') hrbb, ← heap_setCell_other _ ⟨g, i * 3, none⟩ rb (.bool true) hrg, ← heap_setCell_other _ ⟨g, i * 3 + 1, none⟩ rb (.int .i64 1) hrg] at hB2
    rw [← heap_setCell_other _ ⟨g, i * 3 + 2, none⟩ rb (.int .i64 x) hrg] at hB2
    rw [← heap_setCell_other _ ⟨hb, 2, none⟩ rb (.int .i64 (c + 1 : Int)) hrbb] at hB2
    obtain ⟨k0', k1'⟩ := two_cells hB2 (.int .i64 i) (.int .i64 1)
    simp only [List.set_set, Nat.add_zero] at rd
    rw [push_set (A := A) hn] at rd
    have hput : Put A i 1 [.int .i64 x] (A ++ [⟨true, 1, [.int .i64 x]⟩]) := ⟨hfree, .inr ⟨hn.symm, rfl, rfl⟩⟩
    have re := rd.fr (two_fr (rb := rb) (.int .i64 i) (.int .i64 1)) (fun k hk e => by
      rcases hk with h1 | h1
      · exact hbr (h1.symm.trans e)
      · simp [Value.ownBlock] at h1
        exact hgr (h1.trans e))
    refine bodyPost_ret_by (results_hd rfl _ (b := rb) (x := .int .i64 i) (y := .int .i64 1) (Try.isAgg38 _) (Try.sizeOf38 _) rfl k0' k1') rfl ?_
    refine ⟨i, 1, _, rfl, hput, ⟨⟨_, ?_, hO'⟩, ⟨?_, ?_, ?_, hg.size⟩⟩, hFy.ofNew (two_fr _ _) fun k hk => .inr (by omega)⟩
    · rw [hput.cnt, hcc]; exact re
    · intro s hs
      rcases List.mem_append.1 hs with h1 | h1
      · have := hg.gen s h1; omega
      · simp at h1; subst h1; simp only; omega
    · intro s hs
      rcases List.mem_append.1 hs with h1 | h1
      · exact hg.val s h1
      · simp at h1; subst h1; exact ⟨_, rfl⟩
    · have h1 := hg.len
      by_cases he : A.length < size
      · simp; omega
      · exfalso
        have h2 := cnt_all (A := A) (fun j s hs => hfree.1 j s (by have := (List.getElem?_eq_some_iff.1 hs).1; omega) hs)
        omega

end Go.Proofs.Ytgelgnakhghpkaa.I
