/-
  CONTRACT of Start of the reference's timers over this seat's translation.
  Conditions: the reference's timers lie in memory as RefAt says; fewer than 900 have been started.
-/
import Derived.Test.YtbgddldkpjeieaaGreatRef4a
import Derived.Deep.RegionLaw
import Derived.Maps.AppendAt
namespace Go.Proofs.YtbgddldkpjeieaaGreat
open Go.ChangeShapes Go.WideShapes Go.ChangeAt Go.RowKit Go.Maps
set_option linter.unusedVariables false

set_option maxHeartbeats 4000000 in
set_option maxRecDepth 1000000 in
theorem start_ref_root (X : Nat → Prop) (xb : Nat) (L : List Rec) (last d : Int) (ta t2 tc : Int) (w : World) (h : Rf X w xb L last) (hS : ∀ k, w.heap.size ≤ k → X k) (hl : last < 900) (hd : 0 ≤ d ∧ d ≤ 18446744073709551615) :
    Calls Tryz.prog 9 #[.pointer (some ⟨xb, 0, none⟩), .int .i64 0, .int .u64 d, .agg #[.int .i64 ta, .int .i64 t2, .int .i64 tc]] w fun e w' => e = .returned (.tuple #[.int .i64 (last + 1), .bool true]) ∧ Rf X w' xb (L ++ [⟨last + 1, d, 0, .agg #[.int .i64 ta, .int .i64 t2, .int .i64 tc]⟩]) (last + 1) ∧ Fr X w w' := by
  obtain ⟨iv, h, hwd, hX⟩ := h
  have hl0 := h.top
  obtain ⟨i0, hi0, hz0, hz1, hz2⟩ := info_parts infoR
  obtain ⟨tk, htk⟩ : ∃ tk, w.heap.size = tk := ⟨_, rfl⟩
  have hA := h.frNo (Fr.alloc No w (.cells #[.int .i64 ta, .int .i64 t2, .int .i64 tc] 26))
  have HA := Lib.hid hA
  obtain ⟨c0, c1⟩ := hA.hcell
  have f1 := hA.hfrozen 1
  obtain ⟨n, hn⟩ : ∃ n, L.length = n := ⟨_, rfl⟩
  obtain ⟨a, cap, rfl⟩ := h.form0
  rw [hn] at h c0 hA hX HA
  have hn9 : n < 900 := by have := h.shrub.len; omega
  have hR1 := ref_last hA hl
  have hT1 : ((w.alloc (.cells #[.int .i64 ta, .int .i64 t2, .int .i64 tc] 26)).setCell ⟨xb, 1, none⟩ (.int .i64 (last + 1))).heap[tk]? = some (.cells #[.int .i64 ta, .int .i64 t2, .int .i64 tc] 26 (0, 0)) := by
    rw [heap_setCell_other _ _ _ _ (show tk ≠ xb from by have := h.lt; omega), ← htk]
    exact heap_alloc_new w _
  have hF1 : Fr (OwnR xb (.slice a n cap)) w ((w.alloc (.cells #[.int .i64 ta, .int .i64 t2, .int .i64 tc] 26)).setCell ⟨xb, 1, none⟩ (.int .i64 (last + 1))) := (Fr.alloc _ w _).trans (Fr.setCell _ _ ⟨xb, 1, none⟩ _ (Or.inl rfl))
  have HS := Lib.hid (And.intro hn (And.intro hX (And.intro hS hwd)))
  have HTK := Lib.hid htk
  clear h hn hX hS hA hwd
  go_enter Tryz.func9, Tryz.ntmps9
  go_wp2_with fail
  clear c0 c1 f1 HA htk
  revert hR1 hF1 hT1
  generalize (w.alloc (.cells #[.int .i64 ta, .int .i64 t2, .int .i64 tc] 26)).setCell ⟨xb, 1, none⟩ (.int .i64 (last + 1)) = w1
  intro hR1 hT1 hF1
  obtain ⟨c0, c1⟩ := hR1.hcell
  have f0 := hR1.hfrozen 0
  have t0 : w1.cell? ⟨tk, 0, none⟩ = some (.int .i64 ta) := by simp [World.cell?, hT1]
  have t1 : w1.cell? ⟨tk, 1, none⟩ = some (.int .i64 t2) := by simp [World.cell?, hT1]
  have t2' : w1.cell? ⟨tk, 2, none⟩ = some (.int .i64 tc) := by simp [World.cell?, hT1]
  have HROW : Hid (w1.ownsRow 0 58 6 (.slice a n cap) n (flat6 L)) := by have := hR1.row; rw [HS.out.1] at this; exact this
  have hlt1 := hR1.lt
  have HN1 : Hid (some xb ≠ (Value.slice a n cap).ownBlock) := fun e => hR1.apart e.symm
  have HR1 := Lib.hid hR1
  have HF1 := Lib.hid hF1
  clear hR1 hF1 hT1
  go_region_law ((refine step_append_lies _ (by rfl) (.tmp 29) (.tmp 38) 28 (by rfl) 0 58 i0 _ 6 48 Tryz.underlying28 hi0 hz0 hz1 hz2 rfl (by omega) (.slice a n cap) n (flat6 L) (by simp [Act.eval]) (HROW.out.alloc _) ⟨w1.heap.size, 0, none⟩ 1 1 [.int .i64 (last + 1), .int .i64 0, .int .u64 d, .int .i64 ta, .int .i64 t2, .int .i64 tc] (by simp [Act.eval]) (by rfl) (World.news_of_block (cs := #[.int .i64 (last + 1), .int .i64 0, .int .u64 d, .int .i64 ta, .int .i64 t2, .int .i64 tc]) (t := 58) (fr := (0, 0)) (heap_alloc_new w1 _)) (by simp [Value.oneCell']) (by omega) (by unfold maxLen; omega) (by omega) (by simp) (w1.heap.size + 1) (by simp) ?_; intro g cap' w2 hown hgrow hat hlt; have hblk : w2.heap[xb]? = w1.heap[xb]? := (hgrow.block xb (by simp; omega) HN1.out).trans (Below.heap_alloc w1 _ xb hlt1); have k0 := (World.cell?_of_block (a := ⟨xb, 0, none⟩) hblk).trans c0; have k1 := (World.frozen?_of_block (a := ⟨xb, 0, none⟩) hblk).trans f0; have k2 := (World.cell?_of_block (a := ⟨xb, 1, none⟩) hblk).trans c1; have HB := Lib.hid (And.intro hown (And.intro hgrow (And.intro hat (And.intro hlt hblk)))); clear hown hgrow hat hlt hblk))
  all_goals (
    go_wp2_with fail
    refine bodyPost_ret_by (by simp [results]; rfl) rfl ?_
    obtain ⟨hn, hX, hS, hwd⟩ := HS.out
    obtain ⟨hown, hgrow, hat, hlt, hblk⟩ := HB.out
    have hg2 : (Value.slice a n cap).ownBlock = some g ∨ w.heap.size ≤ g := by
      rcases hat with h1 | h1
      · exact .inl h1
      · right
        have := HF1.out.size
        omega
    have hgx : g ≠ xb := by
      intro e
      rcases hat with h1 | h1
      · exact HN1.out (by rw [h1, e])
      · omega
    have hw2 := hwd.start hl0.1 (d := d) (p := 0) (v := .agg #[.int .i64 ta, .int .i64 t2, .int .i64 tc]) (.inl rfl) hd
    have hrow2 : w2.ownsRow 0 58 6 (.slice (some ⟨g, 0, none⟩) (n + 1) cap') (L ++ [(⟨last + 1, d, 0, .agg #[.int .i64 ta, .int .i64 t2, .int .i64 tc]⟩ : Rec)]).length (flat6 (L ++ [(⟨last + 1, d, 0, .agg #[.int .i64 ta, .int .i64 t2, .int .i64 tc]⟩ : Rec)])) := by
      rw [flat6_append, List.length_append, hn]; exact hown
    have hst := ref_store HR1.out hblk hrow2 hw2.shrub (fun r hr => by
      rcases List.mem_append.1 hr with hr | hr
      · exact HR1.out.val r hr
      · simp at hr; subst hr; exact ⟨ta, t2, tc, rfl⟩) (fun k hk e => hgx (by simp [Value.ownBlock] at hk; omega))
    have hXs : ∀ k, OwnR xb (.slice a n cap) k → X k := hX
    refine ⟨rfl, ⟨_, hst, hw2, ?_⟩, ?_⟩
    · rintro k (rfl | hk)
      · exact hX _ (.inl rfl)
      · simp [Value.ownBlock] at hk
        subst hk
        rcases hg2 with h2 | h2
        · exact hX _ (.inr h2)
        · exact hS _ h2
    · exact ((((HF1.out.trans (Fr.alloc _ w1 _)).trans (Fr.drew _ _)).trans (Fr.grown hgrow fun k hk => Or.inr hk)).trans (Fr.setCell _ _ ⟨xb, 0, none⟩ _ (Or.inl rfl))).mono fun k _ hk => hX k hk)

set_option maxHeartbeats 4000000 in
set_option maxRecDepth 1000000 in
theorem start_ref_child (X : Nat → Prop) (xb : Nat) (L : List Rec) (last d : Int) (q : Rec) (ta t2 tc : Int) (w : World) (h : Rf X w xb L last) (hq : q ∈ L) (hS : ∀ k, w.heap.size ≤ k → X k) (hl : last < 900) (hd : 0 ≤ d ∧ d ≤ 18446744073709551615) :
    Calls Tryz.prog 9 #[.pointer (some ⟨xb, 0, none⟩), .int .i64 q.id, .int .u64 d, .agg #[.int .i64 ta, .int .i64 t2, .int .i64 tc]] w fun e w' => e = .returned (.tuple #[.int .i64 (last + 1), .bool true]) ∧ Rf X w' xb (L ++ [⟨last + 1, d, q.id, .agg #[.int .i64 ta, .int .i64 t2, .int .i64 tc]⟩]) (last + 1) ∧ Fr X w w' := by
  obtain ⟨iv, h, hwd, hX⟩ := h
  obtain ⟨iq, hiq⟩ := List.mem_iff_getElem?.1 hq
  have hq0 : q.id ≠ 0 := by have := hwd.id q hq; omega
  have HQ := Lib.hid (And.intro hiq hq)
  clear hiq hq
  have hl0 := h.top
  obtain ⟨i0, hi0, hz0, hz1, hz2⟩ := info_parts infoR
  obtain ⟨tk, htk⟩ : ∃ tk, w.heap.size = tk := ⟨_, rfl⟩
  have hA := h.frNo (Fr.alloc No w (.cells #[.int .i64 ta, .int .i64 t2, .int .i64 tc] 26))
  have HA := Lib.hid hA
  obtain ⟨c0, c1⟩ := hA.hcell
  have f1 := hA.hfrozen 1
  obtain ⟨n, hn⟩ : ∃ n, L.length = n := ⟨_, rfl⟩
  obtain ⟨a, cap, rfl⟩ := h.form0
  rw [hn] at h c0 hA hX HA
  have hn9 : n < 900 := by have := h.shrub.len; omega
  have hR1 := ref_last hA hl
  have hT1 : ((w.alloc (.cells #[.int .i64 ta, .int .i64 t2, .int .i64 tc] 26)).setCell ⟨xb, 1, none⟩ (.int .i64 (last + 1))).heap[tk]? = some (.cells #[.int .i64 ta, .int .i64 t2, .int .i64 tc] 26 (0, 0)) := by
    rw [heap_setCell_other _ _ _ _ (show tk ≠ xb from by have := h.lt; omega), ← htk]
    exact heap_alloc_new w _
  have hF1 : Fr (OwnR xb (.slice a n cap)) w ((w.alloc (.cells #[.int .i64 ta, .int .i64 t2, .int .i64 tc] 26)).setCell ⟨xb, 1, none⟩ (.int .i64 (last + 1))) := (Fr.alloc _ w _).trans (Fr.setCell _ _ ⟨xb, 1, none⟩ _ (Or.inl rfl))
  have HS := Lib.hid (And.intro hn (And.intro hX (And.intro hS hwd)))
  have HTK := Lib.hid htk
  clear h hn hX hS hA hwd
  go_enter Tryz.func9, Tryz.ntmps9
  go_wp2_with fail
  refine (find_hit xb _ L last iq q _ HA.out HQ.out.1).mono ?_
  rintro e w9 ⟨rfl, hw9⟩
  subst hw9
  have p0 : ¬ ((iq : Int) < 0) := by omega
  go_wp2_with fail
  clear c0 c1 f1 HA htk
  revert hR1 hF1 hT1
  generalize (w.alloc (.cells #[.int .i64 ta, .int .i64 t2, .int .i64 tc] 26)).setCell ⟨xb, 1, none⟩ (.int .i64 (last + 1)) = w1
  intro hR1 hT1 hF1
  obtain ⟨c0, c1⟩ := hR1.hcell
  have f0 := hR1.hfrozen 0
  have t0 : w1.cell? ⟨tk, 0, none⟩ = some (.int .i64 ta) := by simp [World.cell?, hT1]
  have t1 : w1.cell? ⟨tk, 1, none⟩ = some (.int .i64 t2) := by simp [World.cell?, hT1]
  have t2' : w1.cell? ⟨tk, 2, none⟩ = some (.int .i64 tc) := by simp [World.cell?, hT1]
  have HROW : Hid (w1.ownsRow 0 58 6 (.slice a n cap) n (flat6 L)) := by have := hR1.row; rw [HS.out.1] at this; exact this
  have hlt1 := hR1.lt
  have HN1 : Hid (some xb ≠ (Value.slice a n cap).ownBlock) := fun e => hR1.apart e.symm
  have HR1 := Lib.hid hR1
  have HF1 := Lib.hid hF1
  clear hR1 hF1 hT1
  go_region_law ((refine step_append_lies _ (by rfl) (.tmp 29) (.tmp 38) 28 (by rfl) 0 58 i0 _ 6 48 Tryz.underlying28 hi0 hz0 hz1 hz2 rfl (by omega) (.slice a n cap) n (flat6 L) (by simp [Act.eval]) (HROW.out.alloc _) ⟨w1.heap.size, 0, none⟩ 1 1 [.int .i64 (last + 1), .int .i64 q.id, .int .u64 d, .int .i64 ta, .int .i64 t2, .int .i64 tc] (by simp [Act.eval]) (by rfl) (World.news_of_block (cs := #[.int .i64 (last + 1), .int .i64 q.id, .int .u64 d, .int .i64 ta, .int .i64 t2, .int .i64 tc]) (t := 58) (fr := (0, 0)) (heap_alloc_new w1 _)) (by simp [Value.oneCell']) (by omega) (by unfold maxLen; omega) (by omega) (by simp) (w1.heap.size + 1) (by simp) ?_; intro g cap' w2 hown hgrow hat hlt; have hblk : w2.heap[xb]? = w1.heap[xb]? := (hgrow.block xb (by simp; omega) HN1.out).trans (Below.heap_alloc w1 _ xb hlt1); have k0 := (World.cell?_of_block (a := ⟨xb, 0, none⟩) hblk).trans c0; have k1 := (World.frozen?_of_block (a := ⟨xb, 0, none⟩) hblk).trans f0; have k2 := (World.cell?_of_block (a := ⟨xb, 1, none⟩) hblk).trans c1; have HB := Lib.hid (And.intro hown (And.intro hgrow (And.intro hat (And.intro hlt hblk)))); clear hown hgrow hat hlt hblk))
  all_goals (
    go_wp2_with fail
    refine bodyPost_ret_by (by simp [results]; rfl) rfl ?_
    obtain ⟨hn, hX, hS, hwd⟩ := HS.out
    obtain ⟨hown, hgrow, hat, hlt, hblk⟩ := HB.out
    have hg2 : (Value.slice a n cap).ownBlock = some g ∨ w.heap.size ≤ g := by
      rcases hat with h1 | h1
      · exact .inl h1
      · right
        have := HF1.out.size
        omega
    have hgx : g ≠ xb := by
      intro e
      rcases hat with h1 | h1
      · exact HN1.out (by rw [h1, e])
      · omega
    have hw2 := hwd.start hl0.1 (d := d) (p := q.id) (v := .agg #[.int .i64 ta, .int .i64 t2, .int .i64 tc]) (.inr ⟨q, HQ.out.2, rfl⟩) hd
    have hrow2 : w2.ownsRow 0 58 6 (.slice (some ⟨g, 0, none⟩) (n + 1) cap') (L ++ [(⟨last + 1, d, q.id, .agg #[.int .i64 ta, .int .i64 t2, .int .i64 tc]⟩ : Rec)]).length (flat6 (L ++ [(⟨last + 1, d, q.id, .agg #[.int .i64 ta, .int .i64 t2, .int .i64 tc]⟩ : Rec)])) := by
      rw [flat6_append, List.length_append, hn]; exact hown
    have hst := ref_store HR1.out hblk hrow2 hw2.shrub (fun r hr => by
      rcases List.mem_append.1 hr with hr | hr
      · exact HR1.out.val r hr
      · simp at hr; subst hr; exact ⟨ta, t2, tc, rfl⟩) (fun k hk e => hgx (by simp [Value.ownBlock] at hk; omega))
    have hXs : ∀ k, OwnR xb (.slice a n cap) k → X k := hX
    refine ⟨rfl, ⟨_, hst, hw2, ?_⟩, ?_⟩
    · rintro k (rfl | hk)
      · exact hX _ (.inl rfl)
      · simp [Value.ownBlock] at hk
        subst hk
        rcases hg2 with h2 | h2
        · exact hX _ (.inr h2)
        · exact hS _ h2
    · exact ((((HF1.out.trans (Fr.alloc _ w1 _)).trans (Fr.drew _ _)).trans (Fr.grown hgrow fun k hk => Or.inr hk)).trans (Fr.setCell _ _ ⟨xb, 0, none⟩ _ (Or.inl rfl))).mono fun k _ hk => hX k hk)

end Go.Proofs.YtbgddldkpjeieaaGreat
