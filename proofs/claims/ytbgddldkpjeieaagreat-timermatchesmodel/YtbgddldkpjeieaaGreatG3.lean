/-
  CONTRACTS of the methods new_any, len_any, min_empty, min_some, push_any of the heap at one element type, over this seat's translation: what each call returns, what it leaves in memory.
  Conditions: the heap lies in memory as HeapAt says, in order.
-/
import Derived.Test.YtbgddldkpjeieaaGreatG2
import Derived.Deep.RegionLaw
import Derived.Test.YtbgddldkpjeieaaGreatOrd2
namespace Go.Proofs.YtbgddldkpjeieaaGreat.G
open Go.ChangeShapes Go.WideShapes Go.ChangeAt Go.RowKit Go.Maps
set_option linter.unusedVariables false

theorem infoE : (Tryz.prog.info? 82).map (fun i => (i.zero, i.size, i.bytes)) = some (some (.agg #[.int .u64 0, .int .i64 0, .pointer none]), 3, 24) := by kernel_rfl

theorem new_any (w : World) : Calls Tryz.prog 18 #[] w fun e w' => ∃ hb mb, e = .returned (.pointer (some ⟨hb, 0, none⟩)) ∧ HA w' hb mb (.slice none 0 0) [] 0 ∧ Fr No w w' ∧ w.heap.size ≤ hb ∧ w.heap.size ≤ mb := by
  have hmm := @run_makeMap Tryz.prog
  go_enter Tryz.func18, Tryz.ntmps18
  go_wp2
  go_ret
  refine ⟨w.heap.size + 1, w.heap.size, rfl, ⟨⟨.map [], ⟨?_, World.ownsRow_nil _ _ _ _, (World.ownsMap_made w _ _ _).alloc _, by simp [Value.ownBlock]⟩, Tied.empty⟩, ⟨fun i e h => by simp at h, fun i e h => by simp at h, fun i e h => by simp at h, by simp, by omega⟩⟩, (Fr.alloc No w _).trans (Fr.alloc No _ _), by omega, by omega⟩
  have := heap_alloc2_new w (.map #[] 0) (.cells #[.slice none 0 0, .map (some w.heap.size), .int .i64 0] 78)
  simpa using this

theorem len_any (hb mb : Nat) (sv : Value) (A : List Ent) (last : Int) (w : World) (h : HA w hb mb sv A last) :
    Calls Tryz.prog 46 #[.pointer (some ⟨hb, 0, none⟩)] w fun e w' => e = .returned (.int .i64 A.length) ∧ w' = w := by
  obtain ⟨⟨D, hr, ht⟩, hg⟩ := h
  obtain ⟨c0, -, -⟩ := hr.hcell
  obtain ⟨a, cap, rfl⟩ : ∃ a cap, sv = .slice a A.length cap := by
    rcases hr.row.2 with ⟨hv, hn⟩ | ⟨g, cap, cur, hv, _⟩
    · exact ⟨none, 0, by rw [hv, hn]⟩
    · exact ⟨_, cap, hv⟩
  clear hr ht hg
  go_enter Tryz.func46, Tryz.ntmps46
  go_wp2
  go_ret
  exact ⟨rfl, rfl⟩

theorem min_empty (hb mb : Nat) (sv : Value) (last : Int) (w : World) (h : HA w hb mb sv [] last) :
    Calls Tryz.prog 22 #[.pointer (some ⟨hb, 0, none⟩)] w fun e w' => e = .returned (.tuple #[.int .i64 0, .int .u64 0, .pointer none, .bool false]) ∧ w' = w := by
  obtain ⟨⟨D, hr, ht⟩, hg⟩ := h
  obtain ⟨c0, -, -⟩ := hr.hcell
  obtain ⟨a, cap, rfl⟩ : ∃ a cap, sv = .slice a 0 cap := by
    rcases hr.row.2 with ⟨hv, hn⟩ | ⟨g, cap, cur, hv, _⟩
    · exact ⟨none, 0, by rw [hv]⟩
    · exact ⟨_, cap, hv⟩
  clear hr ht hg
  go_enter Tryz.func22, Tryz.ntmps22
  go_wp2
  refine bodyPost_ret_by (by simp [results]; rfl) rfl ?_
  exact ⟨rfl, rfl⟩

set_option maxHeartbeats 1000000 in
set_option maxRecDepth 100000 in
theorem min_some (hb mb : Nat) (sv : Value) (A : List Ent) (last : Int) (e0 : Ent) (w : World) (h : HA w hb mb sv A last) (h0 : A[0]? = some e0) :
    Calls Tryz.prog 22 #[.pointer (some ⟨hb, 0, none⟩)] w fun e w' => e = .returned (.tuple #[.int .i64 e0.id, .int .u64 e0.due, e0.val, .bool true]) ∧ Fr No w w' := by
  have h0l : 0 < A.length := (List.getElem?_eq_some_iff.1 h0).1
  have hlen := h.good.len
  obtain ⟨⟨D, hr, ht⟩, hg⟩ := h
  obtain ⟨g, cap, rfl⟩ := hr.form (by omega)
  obtain ⟨c0, -, -⟩ := hr.hcell
  obtain ⟨a0, a1, a2⟩ := hr.ecell h0
  obtain ⟨x, hx⟩ := hg.val 0 e0 h0
  rw [hx] at a2 ⊢
  generalize hn : A.length = n at *
  clear hr ht hg h0 hn hx
  have p1 : (0 : Int) < (n : Int) := by omega
  have p2 : ((n : Int) == 0) = false := by simpa using (by omega : ¬ (n : Int) = 0)
  rw [Nat.zero_mul] at a0 a1 a2
  go_enter Tryz.func22, Tryz.ntmps22
  go_wp2
  go_quiet (fail)
  go_wp2
  refine bodyPost_ret_by (by simp [results]; rfl) rfl ?_
  refine ⟨rfl, ?_⟩
  first
    | exact ((Fr.alloc No w _).trans ⟨rfl, rfl, rfl, Nat.le_refl _, fun _ _ _ => rfl⟩)
    | (refine Fr.trans (b := w.alloc _) (Fr.alloc No w _) ?_; exact ⟨rfl, rfl, rfl, by simp, fun k hk _ => by simp⟩)

set_option maxHeartbeats 4000000 in
set_option maxRecDepth 1000000 in
theorem push_any (hb mb : Nat) (sv : Value) (A : List Ent) (last : Int) (d : Int) (x : Option Addr) (w : World) (h : HA w hb mb sv A last) (hO : Ordered A) (hA : A.length < 900) (hl : last < 900) (hd : 0 ≤ d ∧ d ≤ 18446744073709551615) :
    Calls Tryz.prog 19 #[.pointer (some ⟨hb, 0, none⟩), .int .u64 d, Value.pointer x] w fun e w' => e = .returned (.int .i64 (last + 1)) ∧ ∃ sv' A', HA w' hb mb sv' A' (last + 1) ∧ A'.Perm (⟨d, last + 1, Value.pointer x⟩ :: A) ∧ Ordered A' ∧ Fr (Own hb mb sv) w w' ∧ (∀ k, sv'.ownBlock = some k → sv.ownBlock = some k ∨ w.heap.size ≤ k) := by
  obtain ⟨⟨D, hr, ht⟩, hg⟩ := h
  have hl0 := hg.last.1
  obtain ⟨i0, hi0, hz0, hz1, hz2⟩ := info_parts infoE
  obtain ⟨c0, c1, c2⟩ := hr.hcell
  have f2 := hr.hfrozen 2
  obtain ⟨n, hn⟩ : ∃ n, A.length = n := ⟨_, rfl⟩
  have hform : ∃ a cap, sv = .slice a n cap := by
    rcases hr.row.2 with ⟨hv, hn'⟩ | ⟨g, cap, cur, hv, _⟩
    · exact ⟨none, 0, by rw [hv, ← hn, hn']⟩
    · exact ⟨_, cap, by rw [hv, hn]⟩
  obtain ⟨a, cap, rfl⟩ := hform
  have hR1 := hr.setLast (last + 1)
  have hF1 : Fr (Own hb mb (.slice a n cap)) w (w.setCell ⟨hb, 2, none⟩ (.int .i64 (last + 1))) := Fr.hdr 2 _
  have HS := Lib.hid (And.intro ht (And.intro hg (And.intro hO hn)))
  have hn9 : n < 900 := by omega
  clear hr ht hg hO hn hA
  go_enter Tryz.func19, Tryz.ntmps19
  go_wp2_with fail
  clear c0 c1 c2 f2
  revert hR1 hF1
  generalize w.setCell ⟨hb, 2, none⟩ (.int .i64 (last + 1)) = w1
  intro hR1 hF1
  obtain ⟨c0, c1, c2⟩ := hR1.hcell
  have f0 := hR1.hfrozen 0
  have HROW : Hid (w1.ownsRow 0 82 3 (.slice a n cap) n (flat A)) := by have := hR1.row; rw [HS.out.2.2.2] at this; exact this
  have hlt1 := hR1.lt
  have hne1 : some hb ≠ (Value.slice a n cap).ownBlock := fun e => hR1.apart e.symm
  have HR1 := Lib.hid hR1
  have HF1 := Lib.hid hF1
  have HN1 := Lib.hid hne1
  clear hR1 hF1 hne1
  go_region_law ((refine step_append_lies _ (by rfl) (.tmp 24) (.tmp 33) 76 (by rfl) 0 82 i0 _ 3 24 Tryz.underlying76 hi0 hz0 hz1 hz2 rfl (by omega) (.slice a n cap) n (flat A) (by simp [Act.eval]) (HROW.out.alloc _) ⟨w1.heap.size, 0, none⟩ 1 1 [.int .u64 d, .int .i64 (last + 1), Value.pointer x] (by simp [Act.eval]) (by rfl) (World.news_of_block (cs := #[.int .u64 d, .int .i64 (last + 1), Value.pointer x]) (t := 82) (fr := (0, 0)) (heap_alloc_new w1 _)) (by simp [Value.oneCell']) (by omega) (by unfold maxLen; omega) (by omega) (by simp) (w1.heap.size + 1) (by simp) ?_; intro g cap' w2 hown hgrow hat hlt; have hblk : w2.heap[hb]? = w1.heap[hb]? := (hgrow.block hb (by simp; omega) HN1.out).trans (Below.heap_alloc w1 _ hb hlt1); have k0 := (World.cell?_of_block (a := ⟨hb, 0, none⟩) hblk).trans c0; have k1 := (World.frozen?_of_block (a := ⟨hb, 0, none⟩) hblk).trans f0; have HB := Lib.hid (And.intro hown (And.intro hgrow (And.intro hat hlt))); clear hown hgrow hat hlt hblk))
  all_goals (
    obtain ⟨ht, hg, hO, hn⟩ := HS.out
    obtain ⟨hown, hgrow, hat, hlt⟩ := HB.out
    have hR2 := ((HR1.out.alloc (.cells #[.int .u64 d, .int .i64 (last + 1), Value.pointer x] 82)).drew).append (g := g) (cap := cap') ⟨d, last + 1, Value.pointer x⟩ hgrow (by rw [hn]; exact hown) (by
      rcases hat with h1 | h1
      · exact .inl h1
      · right; rw [h1]; simp)
    rw [hn] at hR2
    have hF2 : Fr (Own hb mb (.slice a n cap)) w (w2.setCell ⟨hb, 0, none⟩ (.slice (some ⟨g, 0, none⟩) (n + 1) cap')) :=
      (((HF1.out.trans (Fr.alloc _ w1 (.cells #[.int .u64 d, .int .i64 (last + 1), Value.pointer x] 82))).trans (Fr.drew _ _)).trans (Fr.grown hgrow fun k hk => Or.inr (Or.inr hk))).trans (Fr.hdr 0 _)
    have hg2 : (Value.slice a n cap).ownBlock = some g ∨ w.heap.size ≤ g := by
      rcases hat with h1 | h1
      · exact .inl h1
      · right
        have := HF1.out.size
        omega
    clear k0 k1 c0 c1 c2 f0 hown hgrow hat hlt HB HR1 HF1 HN1 HROW hlt1
    revert hR2 hF2
    generalize w2.setCell ⟨hb, 0, none⟩ (.slice (some ⟨g, 0, none⟩) (n + 1) cap') = w3
    intro hR2 hF2
    have HR2 := Lib.hid hR2
    have HF2 := Lib.hid hF2
    have HG2 := Lib.hid hg2
    clear hR2 hF2 hg2 ht hg hO hn
    go_wp2_with fail
    refine region_tail 9 (by kernel_rfl) (by kernel_rfl) ?_
    intro y hy
    have HRy : Hid (Raw 78 82 y hb mb (.slice (some ⟨g, 0, none⟩) (n + 1) cap') (A ++ [⟨d, last + 1, Value.pointer x⟩]) (last + 1) n D) := by subst hy; exact HR2.out.drew
    have HFy : Hid (Fr (Own hb mb (.slice a n cap)) w y) := by subst hy; exact HF2.out.trans (Fr.drew _ _)
    obtain ⟨c0, c1, c2⟩ := HRy.out.hcell
    clear HR2 HF2 hy
    simp only [List.take_succ_cons, List.take_zero, List.drop_succ_cons, List.drop_zero]
    iterate 9 still_step
    refine wpStill_nil ?_
    go_wp2_with (first | (at_mapUpdate; refine wpList_mapUpdate_in _ rfl _ _ _ 75 rfl 3 3 law3 Tryz.underlying75 _ mb n D rfl HRy.out.map (by unfold maxLen; omega) _ _ _ rfl rfl (keyOf_int_mk Tryz.underlying3 (WalkArith.wf_i64 (by omega))) _ [] (plainElem_int Tryz.underlying3 (WalkArith.wf_i64 (by omega))) ?_; intro w4 hown4 hturn4) | fail)
    have hR4 := HRy.out.turn hown4 hturn4
    have hF4 := HFy.out.trans (Fr.turn hturn4)
    clear hown4 hturn4 c0 c1 c2 HRy HFy
    obtain ⟨ht, hg, hO, hn⟩ := HS.out
    have hT := ht.push ⟨d, last + 1, Value.pointer x⟩ (fun i e' hi he => by have := hg.id i e' hi; simp at he; omega)
    rw [hn] at hT
    have hH4 : HA w4 hb mb (.slice (some ⟨g, 0, none⟩) (n + 1) cap') (A ++ [⟨d, last + 1, Value.pointer x⟩]) (last + 1) :=
      ⟨⟨_, { hR4 with map := ownsMap_tight hR4.map hT.size }, hT⟩, hg.push d _ hd ⟨x, rfl⟩ (by omega) (by omega)⟩
    have hE := ex_push hO ⟨d, last + 1, Value.pointer x⟩
    rw [hn] at hE
    have HH := Lib.hid (And.intro hH4 (And.intro hF4 hE))
    clear hR4 hF4 hT hH4 hE ht hg hO hn
    go_wp2_with fail
    refine (moveUp_any hb mb _ _ _ n _ HH.out.1 (by have := HS.out.2.2.2; simp; omega) HH.out.2.2).mono ?_
    rintro e w5 ⟨rfl, A', h1, h2, h3, h4⟩
    have c2 : w5.cell? ⟨hb, 2, none⟩ = some (.int .i64 (last + 1)) := by obtain ⟨⟨D', hr', _⟩, _⟩ := h1; exact hr'.hcell.2.2
    have H5 := Lib.hid (And.intro h1 (And.intro h2 (And.intro h3 h4)))
    clear h1 h2 h3 h4
    go_wp2_with fail
    go_ret
    obtain ⟨h1, h2, h3, h4⟩ := H5.out
    have hF := HH.out.2.1
    refine ⟨rfl, _, A', h1, h2.trans (List.perm_append_singleton _ _), ?_, ?_, ?_⟩
    · have hlen' : A'.length = n + 1 := by rw [h2.length_eq]; have := HS.out.2.2.2; simp; omega
      exact ordered_of_down h3 (by omega)
    · refine ⟨h4.os.trans hF.os, h4.tape.trans hF.tape, h4.output.trans hF.output, Nat.le_trans hF.size h4.size, fun k hk hs => ?_⟩
      refine (h4.block k (Nat.lt_of_lt_of_le hk hF.size) ?_).trans (hF.block k hk hs)
      rintro (e | e | e)
      · exact hs (Or.inl e)
      · exact hs (Or.inr (Or.inl e))
      · simp [Value.ownBlock] at e
        rcases HG2.out with h5 | h5
        · exact hs (Or.inr (Or.inr (by rw [h5, e])))
        · omega
    · intro k hk
      simp [Value.ownBlock] at hk
      subst hk
      exact HG2.out)

end Go.Proofs.YtbgddldkpjeieaaGreat.G
