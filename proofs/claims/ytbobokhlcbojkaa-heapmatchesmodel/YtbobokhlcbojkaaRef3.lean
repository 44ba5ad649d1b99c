/-
  CONTRACT of Push of the reference heap over this seat's translation; the heap and the reference heap lie apart.
  Conditions: the reference heap lies in memory as RefAt says; few entries.
-/
import Derived.Test.YtbobokhlcbojkaaRef2
namespace Go.Proofs.Ytbobokhlcbojkaa
open Go.ChangeShapes Go.WideShapes Go.ChangeAt Go.RowKit Go.Maps
set_option linter.unusedVariables false

theorem Lst.push {L : List Ent} (h : Lst L) (e : Ent) (hv : I.V e.val) (hd : 0 ≤ e.due ∧ e.due ≤ 18446744073709551615) (hid : ∀ a ∈ L, a.id < e.id) (hl : L.length < 1000) : Lst (L ++ [e]) := by
  have key : ∀ (k : Nat) (b : Ent), (L ++ [e])[k]? = some b → L[k]? = some b ∨ b = e := by
    intro k b hk
    by_cases hl : k < L.length
    · rw [List.getElem?_append_left hl] at hk; exact .inl hk
    · have := (List.getElem?_eq_some_iff.1 hk).1
      simp at this
      obtain rfl : k = L.length := by omega
      simp at hk
      exact .inr hk.symm
  refine ⟨fun k b hk => ?_, ?_, fun k b hk => ?_, by simp; omega⟩
  · rcases key k b hk with h1 | rfl
    · exact h.val k b h1
    · exact hv
  · rw [List.pairwise_append]
    exact ⟨h.inc, by simp, fun a ha b hb => by simp at hb; subst hb; exact hid a ha⟩
  · rcases key k b hk with h1 | rfl
    · exact h.due k b h1
    · exact hd

theorem Lst.due' {L : List Ent} (h : Lst L) {i : Nat} {e : Ent} (hi : L[i]? = some e) (d : Int) (hd : 0 ≤ d ∧ d ≤ 18446744073709551615) : Lst (L.set i { e with due := d }) := by
  refine ⟨fun k b hk => ?_, ?_, fun k b hk => ?_, by simpa using h.len⟩
  · rw [set_get hi] at hk
    split at hk
    · cases hk; exact h.val i e hi
    · exact h.val k b hk
  · have hm : (L.set i { e with due := d }).map Ent.id = L.map Ent.id := by
      rw [List.map_set]
      apply List.ext_getElem?
      intro k
      rw [List.getElem?_set]
      split
      · rename_i hk
        subst hk
        have hil := (List.getElem?_eq_some_iff.1 hi).1
        simp only [List.length_map, if_pos hil, List.getElem?_map, hi]
        rfl
      · rfl
    have h1 : (L.map Ent.id).Pairwise (fun a b => a < b) := List.pairwise_map.2 h.inc
    rw [← hm] at h1
    exact List.pairwise_map.1 h1
  · rw [set_get hi] at hk
    split at hk
    · cases hk; exact hd
    · exact h.due k b hk

theorem due_ref {w : World} {xb g n cap i : Nat} {L : List Ent} {last d : Int} {e : Ent} (h : RefAt w xb (.slice (some ⟨g, 0, none⟩) n cap) L last) (hn : L.length = n) (hi : L[i]? = some e) (hd : 0 ≤ d ∧ d ≤ 18446744073709551615) :
    RefAt (w.setCell ⟨g, i * 3 + 1, none⟩ (.int .u64 d)) xb (.slice (some ⟨g, 0, none⟩) n cap) (L.set i { e with due := d }) last := by
  have hg1 : g ≠ xb := fun e => h.apart (by simp [Value.ownBlock, e])
  subst hn
  refine ⟨?_, ?_, h.apart, h.lst.due' hi d hd⟩
  · rw [heap_setCell_other _ _ _ _ hg1.symm]; exact h.hdr
  · have := (h.row.stored (i * 3 + 1) (.int .u64 d)).1
    rw [flatR_due L i e d hi] at this
    rw [List.length_set]; exact this

theorem row_block {w : World} {en : TypeId} {v : Value} {n : Nat} {xs : List Value} (h : w.ownsRow 0 en 3 v n xs) {k : Nat} (hk : v.ownBlock = some k) : ∃ c, w.heap[k]? = some (.cells c en (0, 0)) := by
  rcases h.2 with ⟨hv, _⟩ | ⟨g, cap, cur, hv, _, hg, _⟩
  · rw [hv] at hk; cases hk
  · rw [hv] at hk
    simp [Value.ownBlock] at hk
    subst hk
    exact ⟨cur, hg⟩

theorem disj {w : World} {hb mb xb : Nat} {sv iv : Value} {A L : List Ent} {last last' : Int} (h : HeapAt I.V 75 80 w hb mb sv A last) (x : RefAt w xb iv L last') : ∀ k, Own hb mb sv k → ¬ OwnR xb iv k := by
  obtain ⟨⟨D, hr, ht⟩, hg⟩ := h
  obtain ⟨es, clock, hm, _⟩ := hr.map
  intro k hk hx
  have h2 : (∃ c, w.heap[k]? = some (.cells c 28 (0, 0))) ∨ (∃ c, w.heap[k]? = some (.cells c 43 (0, 0))) := by
    rcases hx with rfl | hx
    · exact .inl ⟨_, x.hdr⟩
    · exact .inr (row_block x.row hx)
  rcases hk with rfl | rfl | hk
  · rcases h2 with ⟨c, hc⟩ | ⟨c, hc⟩ <;> rw [hr.hdr] at hc <;> cases hc
  · rcases h2 with ⟨c, hc⟩ | ⟨c, hc⟩ <;> rw [hm] at hc <;> cases hc
  · obtain ⟨c', hc'⟩ := row_block hr.row hk
    rcases h2 with ⟨c, hc⟩ | ⟨c, hc⟩ <;> rw [hc'] at hc <;> cases hc

theorem heap_set1 {w : World} {xb : Nat} {a b : Value} {st : TypeId} (h : w.heap[xb]? = some (.cells #[a, b] st (0, 0))) (v : Value) : (w.setCell ⟨xb, 1, none⟩ v).heap[xb]? = some (.cells #[a, v] st (0, 0)) := by
  rw [heap_setCell_same w xb 1 _ _ v h]; rfl

set_option maxHeartbeats 4000000 in
set_option maxRecDepth 1000000 in
theorem push_ref (xb : Nat) (iv : Value) (L : List Ent) (last : Int) (d x : Int) (w : World) (h : RefAt w xb iv L last) (hA : L.length < 900) (hl : 0 ≤ last ∧ last < 900) (hd : 0 ≤ d ∧ d ≤ 18446744073709551615) (hids : ∀ a ∈ L, a.id ≤ last) :
    Calls Try.prog 13 #[.pointer (some ⟨xb, 0, none⟩), .int .u64 d, .int .i64 x] w fun e w' => e = .returned (.int .i64 (last + 1)) ∧ ∃ iv', RefAt w' xb iv' (L ++ [⟨d, last + 1, .int .i64 x⟩]) (last + 1) ∧ Fr (OwnR xb iv) w w' ∧ (∀ k, iv'.ownBlock = some k → iv.ownBlock = some k ∨ w.heap.size ≤ k) := by
  obtain ⟨hl0, hl1⟩ := hl
  obtain ⟨i0, hi0, hz0, hz1, hz2⟩ := info_parts infoR
  obtain ⟨c0, c1⟩ := h.hcell
  have f1 := h.hfrozen 1
  obtain ⟨n, hn⟩ : ∃ n, L.length = n := ⟨_, rfl⟩
  obtain ⟨a, cap, rfl⟩ := h.form0
  rw [hn] at h c0
  have hn9 : n < 900 := by omega
  have hR1 : RefAt (w.setCell ⟨xb, 1, none⟩ (.int .i64 (last + 1))) xb (.slice a n cap) L (last + 1) :=
    ⟨heap_set1 h.hdr _, row_keep h.row (fun k hk => heap_setCell_other _ _ _ _ (fun e => h.apart (by rw [hk]; simp [e]))), h.apart, h.lst⟩
  have hF1 : Fr (OwnR xb (.slice a n cap)) w (w.setCell ⟨xb, 1, none⟩ (.int .i64 (last + 1))) := Fr.setCell _ w ⟨xb, 1, none⟩ _ (Or.inl rfl)
  have HS := Lib.hid (And.intro hn hids)
  clear h hn hA hids
  rw [show (Value.slice a L.length cap) = Value.slice a n cap by rw [HS.out.1]]
  go_enter Try.func13, Try.ntmps13
  go_wp2_with fail
  clear c0 c1 f1
  revert hR1 hF1
  generalize w.setCell ⟨xb, 1, none⟩ (.int .i64 (last + 1)) = w1
  intro hR1 hF1
  obtain ⟨c0, c1⟩ := hR1.hcell
  have f0 := hR1.hfrozen 0
  have HROW : Hid (w1.ownsRow 0 43 3 (.slice a n cap) n (flatR L)) := by have := hR1.row; rw [HS.out.1] at this; exact this
  have hlt1 := hR1.lt
  have HN1 : Hid (some xb ≠ (Value.slice a n cap).ownBlock) := fun e => hR1.apart e.symm
  have HR1 := Lib.hid hR1
  have HF1 := Lib.hid hF1
  clear hR1 hF1
  go_region_law ((refine step_append_lies _ (by rfl) (.tmp 18) (.tmp 26) 26 (by rfl) 0 43 i0 _ 3 24 Try.underlying26 hi0 hz0 hz1 hz2 rfl (by omega) (.slice a n cap) n (flatR L) (by simp [Act.eval]) (HROW.out.alloc _) ⟨w1.heap.size, 0, none⟩ 1 1 [.int .i64 (last + 1), .int .u64 d, .int .i64 x] (by simp [Act.eval]) (by rfl) (World.news_of_block (cs := #[.int .i64 (last + 1), .int .u64 d, .int .i64 x]) (t := 43) (fr := (0, 0)) (heap_alloc_new w1 _)) (by simp [Value.oneCell']) (by omega) (by unfold maxLen; omega) (by omega) (by simp) (w1.heap.size + 1) (by simp) ?_; intro g cap' w2 hown hgrow hat hlt; have hblk : w2.heap[xb]? = w1.heap[xb]? := (hgrow.block xb (by simp; omega) HN1.out).trans (Below.heap_alloc w1 _ xb hlt1); have k0 := (World.cell?_of_block (a := ⟨xb, 0, none⟩) hblk).trans c0; have k1 := (World.frozen?_of_block (a := ⟨xb, 0, none⟩) hblk).trans f0; have k2 := (World.cell?_of_block (a := ⟨xb, 1, none⟩) hblk).trans c1; have HB := Lib.hid (And.intro hown (And.intro hgrow (And.intro hat (And.intro hlt hblk)))); clear hown hgrow hat hlt hblk))
  all_goals (
    go_wp2_with fail
    go_ret
    obtain ⟨hn, hids⟩ := HS.out
    obtain ⟨hown, hgrow, hat, hlt, hblk⟩ := HB.out
    have hg2 : (Value.slice a n cap).ownBlock = some g ∨ w.heap.size ≤ g := by
      rcases hat with h1 | h1
      · exact .inl h1
      · right
        have := HF1.out.size
        omega
    have hgx : g ≠ xb := by
      intro e
      rcases hat with h1 | h1
      · exact HN1.out (by rw [h1, e])
      · omega
    have hrow2 : w2.ownsRow 0 43 3 (.slice (some ⟨g, 0, none⟩) (n + 1) cap') (L ++ [(⟨d, last + 1, .int .i64 x⟩ : Ent)]).length (flatR (L ++ [(⟨d, last + 1, .int .i64 x⟩ : Ent)])) := by
      rw [flatR_append, List.length_append, hn]; exact hown
    have hst := ref_store HR1.out hblk hrow2 (HR1.out.lst.push ⟨d, last + 1, .int .i64 x⟩ ⟨x, rfl⟩ hd (fun b hb => by have := hids b hb; simp; omega) (by omega)) (fun k hk e => hgx (by simp [Value.ownBlock] at hk; omega))
    refine ⟨rfl, _, hst, ?_, ?_⟩
    · exact (((HF1.out.trans (Fr.alloc _ w1 _)).trans (Fr.drew _ _)).trans (Fr.grown hgrow fun k hk => Or.inr hk)).trans (Fr.setCell _ _ ⟨xb, 0, none⟩ _ (Or.inl rfl))
    · intro k hk
      simp [Value.ownBlock] at hk
      subst hk
      exact hg2)

end Go.Proofs.Ytbobokhlcbojkaa
