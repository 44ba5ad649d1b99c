/-
  Tries in memory: a tree's nodes and values, places of pointers, what a store at a place does.
  Conditions: none.
-/
import Derived.Test.YtnbohhiooigmbaaPu
namespace Go.Proofs.Ytnbohhiooigmbaa
open Go.ChangeShapes Go.WideShapes Go.ChangeAt Go.RowKit
set_option linter.unusedVariables false

def vp : Option (Nat × Value) → Value
  | none => .pointer none
  | some (vb, _) => .pointer (some ⟨vb, 0, none⟩)
def rt : Tr → Value
  | .nil => .pointer none
  | .node g _ _ _ _ => .pointer (some ⟨g, 0, none⟩)
def vbl : Option (Nat × Value) → List Nat
  | none => []
  | some (vb, _) => [vb]
/-- The blocks of a tree. -/
def blk : Tr → List Nat
  | .nil => []
  | .node g _ v l r => g :: (vbl v ++ (blk l ++ blk r))
def cellsOf (q : Px) (v : Option (Nat × Value)) (l r : Tr) : List Value := pfx q.b q.xs q.n ++ [vp v, rt l, rt r]
def VAt (V : TypeId) (w : World) : Option (Nat × Value) → Prop
  | none => True
  | some (vb, x) => w.heap[vb]? = some (.cells #[x] V (0, 0))
/-- A tree in memory. -/
def In (N V : TypeId) (w : World) : Tr → Prop
  | .nil => True
  | .node g q v l r => w.heap[g]? = some (.cells (cellsOf q v l r).toArray N (0, 0)) ∧ VAt V w v ∧ In N V w l ∧ In N V w r
theorem VAt.keep {V : TypeId} {w w' : World} {v : Option (Nat × Value)} (h : VAt V w v) (hk : ∀ k ∈ vbl v, w'.heap[k]? = w.heap[k]?) : VAt V w' v := by
  cases v with
  | none => trivial
  | some u => obtain ⟨vb, x⟩ := u; exact (hk vb (List.mem_singleton.2 rfl)).trans h
theorem In.keep {N V : TypeId} {w w' : World} : ∀ {t : Tr}, In N V w t → (∀ k ∈ blk t, w'.heap[k]? = w.heap[k]?) → In N V w' t
  | .nil, _, _ => trivial
  | .node g q v l r, h, hk => by
    refine ⟨(hk g List.mem_cons_self).trans h.1, h.2.1.keep fun k hm => hk k ?_, In.keep h.2.2.1 fun k hm => hk k ?_, In.keep h.2.2.2 fun k hm => hk k ?_⟩
    · exact List.mem_cons_of_mem _ (List.mem_append.2 (.inl hm))
    · exact List.mem_cons_of_mem _ (List.mem_append.2 (.inr (List.mem_append.2 (.inl hm))))
    · exact List.mem_cons_of_mem _ (List.mem_append.2 (.inr (List.mem_append.2 (.inr hm))))
theorem some_lt {w : World} {k : Nat} {o : Obj} (h : w.heap[k]? = some o) : k < w.heap.size := (Array.getElem?_eq_some_iff.1 h).1
theorem In.lt {N V : TypeId} {w : World} : ∀ {t : Tr}, In N V w t → ∀ k ∈ blk t, k < w.heap.size
  | .nil, _, k, hk => by cases hk
  | .node g q v l r, h, k, hk => by
    rcases List.mem_cons.1 hk with rfl | hk
    · exact some_lt h.1
    · rcases List.mem_append.1 hk with hk | hk
      · cases v with
        | none => cases hk
        | some u => obtain ⟨vb, x⟩ := u; rw [List.mem_singleton.1 hk]; exact some_lt h.2.1
      · rcases List.mem_append.1 hk with hk | hk
        · exact In.lt h.2.2.1 k hk
        · exact In.lt h.2.2.2 k hk
theorem In.fr {N V : TypeId} {S : Nat → Prop} {w w' : World} {t : Tr} (h : In N V w t) (hf : Fr S w w') (hS : ∀ k ∈ blk t, ¬ S k) : In N V w' t :=
  h.keep fun k hk => hf.block k (h.lt k hk) (hS k hk)
theorem In.no {N V : TypeId} {w w' : World} {t : Tr} (h : In N V w t) (hf : Fr No w w') : In N V w' t := h.fr hf fun _ _ h => h
theorem cellsOf_length {q : Px} (hx : Bytes q.xs) (v : Option (Nat × Value)) (l r : Tr) : (cellsOf q v l r).length = 21 := by
  rw [cellsOf, List.length_append, pfx_length hx.1]; rfl
theorem vp_one (v : Option (Nat × Value)) : (vp v).oneCell' = true := by
  cases v with
  | none => rfl
  | some u => obtain ⟨vb, x⟩ := u; rfl
theorem rt_one (t : Tr) : (rt t).oneCell' = true := by cases t <;> rfl
theorem cellsOf_one (q : Px) (v : Option (Nat × Value)) (l r : Tr) : ∀ u ∈ cellsOf q v l r, u.oneCell' = true := by
  intro u hu
  rcases List.mem_append.1 hu with hu | hu
  · exact pfx_one _ _ _ u hu
  · simp only [List.mem_cons, List.not_mem_nil, or_false] at hu
    rcases hu with rfl | rfl | rfl
    · exact vp_one v
    · exact rt_one l
    · exact rt_one r
theorem cellsOf_pfx {q : Px} {v : Option (Nat × Value)} {l r : Tr} (j : Nat) (u : Value) (h : (pfx q.b q.xs q.n).toArray[j]? = some u) : (cellsOf q v l r).toArray[0 + j]? = some u := by
  rw [Nat.zero_add, List.getElem?_toArray] at *
  rw [cellsOf, List.getElem?_append_left (List.getElem?_eq_some_iff.1 h).1]
  exact h
theorem cellsOf_at {q : Px} (hx : Bytes q.xs) (v : Option (Nat × Value)) (l r : Tr) : (cellsOf q v l r).toArray[18]? = some (vp v) ∧ (cellsOf q v l r).toArray[19]? = some (rt l) ∧ (cellsOf q v l r).toArray[20]? = some (rt r) := by
  have h18 := pfx_length (b := q.b) (n := q.n) hx.1
  refine ⟨?_, ?_, ?_⟩ <;> rw [List.getElem?_toArray, cellsOf, List.getElem?_append_right (by omega), h18] <;> rfl
theorem cell_of {w : World} {g j : Nat} {cs : Array Value} {T : TypeId} {f : Nat × Nat} {u : Value} (h : w.heap[g]? = some (.cells cs T f)) (hj : cs[j]? = some u) : w.cell? ⟨g, j, none⟩ = some u := by
  simp [World.cell?, h, hj]
/-- Where the pointer to a place of a tree lies. -/
def slotOf (A : Addr) : Tr → List Bool → Addr
  | _, [] => A
  | .nil, _ :: _ => A
  | .node g _ _ l r, d :: ds => if d = true then slotOf ⟨g, 20, none⟩ r ds else slotOf ⟨g, 19, none⟩ l ds
/-- A way that stays in the tree. -/
def okW : Tr → List Bool → Prop
  | _, [] => True
  | .nil, _ :: _ => False
  | .node _ _ _ l r, d :: ds => if d = true then okW r ds else okW l ds
theorem fp_ok : ∀ (t : Tr) (p : Px), okW t (fp t p)
  | .nil, p => trivial
  | .node g q v l r, p => by
    rw [fp]
    split
    · split
      · rw [okW, if_pos rfl]; exact fp_ok r p
      · rw [okW, if_neg (by decide)]; exact fp_ok l p
    · trivial
theorem sub_in {N V : TypeId} {w : World} : ∀ {t : Tr} {ds : List Bool}, In N V w t → In N V w (sub t ds)
  | t, [], h => by rw [sub]; exact h
  | .nil, _ :: _, h => trivial
  | .node g q v l r, d :: ds, h => by
    rw [sub]
    split
    · exact sub_in h.2.2.2
    · exact sub_in h.2.2.1
theorem sub_blk : ∀ {t : Tr} {ds : List Bool} {k : Nat}, k ∈ blk (sub t ds) → k ∈ blk t
  | t, [], k, h => by rw [sub] at h; exact h
  | .nil, _ :: _, k, h => h
  | .node g q v l r, d :: ds, k, h => by
    rw [sub] at h
    refine List.mem_cons_of_mem _ (List.mem_append.2 (.inr (List.mem_append.2 ?_)))
    split at h
    · exact .inr (sub_blk h)
    · exact .inl (sub_blk h)
theorem rt_plug : ∀ {t : Tr} {ds : List Bool} {s : Tr}, ds ≠ [] → okW t ds → rt (plug t ds s) = rt t
  | t, [], s, h, _ => absurd rfl h
  | .nil, _ :: _, s, _, h => h.elim
  | .node g q v l r, d :: ds, s, _, _ => by
    rw [plug]
    split <;> rfl
/-- The pointer at a place. -/
theorem slot_cell {N V : TypeId} {w : World} : ∀ {t : Tr} {ds : List Bool} {A : Addr}, In N V w t → Wf t → okW t ds → w.cell? A = some (rt t) → w.cell? (slotOf A t ds) = some (rt (sub t ds))
  | t, [], A, _, _, _, h => by rw [slotOf, sub]; exact h
  | .nil, _ :: _, A, _, _, h, _ => h.elim
  | .node g q v l r, d :: ds, A, hi, hw, ho, _ => by
    obtain ⟨_, c1, c2⟩ := cellsOf_at hw.1.1 v l r
    rw [slotOf, sub]
    rw [okW] at ho
    cases d with
    | true => rw [if_pos rfl] at ho ⊢; rw [if_pos rfl]; exact slot_cell hi.2.2.2 hw.2.2.2.2 ho (cell_of hi.1 c2)
    | false => rw [if_neg (by decide)] at ho ⊢; rw [if_neg (by decide)]; exact slot_cell hi.2.2.1 hw.2.2.2.1 ho (cell_of hi.1 c1)
theorem slot_block {t : Tr} {ds : List Bool} {A : Addr} : ds ≠ [] → okW t ds → (slotOf A t ds).block ∈ blk t ∧ ∃ o, slotOf A t ds = ⟨(slotOf A t ds).block, o, none⟩ ∧ (o = 19 ∨ o = 20) := by
  induction t generalizing ds A with
  | nil => intro h1 h2; cases ds with
    | nil => exact absurd rfl h1
    | cons d ds => exact h2.elim
  | node g q v l r ihl ihr =>
    intro h1 h2
    cases ds with
    | nil => exact absurd rfl h1
    | cons d ds =>
      rw [slotOf]
      rw [okW] at h2
      cases d with
      | true =>
        rw [if_pos rfl] at h2 ⊢
        by_cases he : ds = []
        · subst he
          rw [slotOf]
          exact ⟨List.mem_cons_self, 20, rfl, .inr rfl⟩
        · obtain ⟨k1, k2⟩ := ihr (A := ⟨g, 20, none⟩) he h2
          exact ⟨List.mem_cons_of_mem _ (List.mem_append.2 (.inr (List.mem_append.2 (.inr k1)))), k2⟩
      | false =>
        rw [if_neg (by decide)] at h2 ⊢
        by_cases he : ds = []
        · subst he
          rw [slotOf]
          exact ⟨List.mem_cons_self, 19, rfl, .inl rfl⟩
        · obtain ⟨k1, k2⟩ := ihl (A := ⟨g, 19, none⟩) he h2
          exact ⟨List.mem_cons_of_mem _ (List.mem_append.2 (.inr (List.mem_append.2 (.inl k1)))), k2⟩
theorem cells_l {q : Px} (hx : Bytes q.xs) (v : Option (Nat × Value)) (l r s : Tr) : (cellsOf q v l r).toArray.setIfInBounds 19 (rt s) = (cellsOf q v s r).toArray := by
  have h18 := pfx_length (b := q.b) (n := q.n) hx.1
  rw [List.setIfInBounds_toArray, cellsOf, List.set_append_right (h := by omega), h18]; rfl
theorem cells_r {q : Px} (hx : Bytes q.xs) (v : Option (Nat × Value)) (l r s : Tr) : (cellsOf q v l r).toArray.setIfInBounds 20 (rt s) = (cellsOf q v l s).toArray := by
  have h18 := pfx_length (b := q.b) (n := q.n) hx.1
  rw [List.setIfInBounds_toArray, cellsOf, List.set_append_right (h := by omega), h18]; rfl
theorem cells_v {q : Px} (hx : Bytes q.xs) (v u : Option (Nat × Value)) (l r : Tr) : (cellsOf q v l r).toArray.setIfInBounds 18 (vp u) = (cellsOf q u l r).toArray := by
  have h18 := pfx_length (b := q.b) (n := q.n) hx.1
  rw [List.setIfInBounds_toArray, cellsOf, List.set_append_right (h := by omega), h18]; rfl
theorem nodup_parts {g : Nat} {q : Px} {v : Option (Nat × Value)} {l r : Tr} (h : (blk (.node g q v l r)).Nodup) : g ∉ vbl v ∧ g ∉ blk l ∧ g ∉ blk r ∧ (∀ k ∈ vbl v, k ∉ blk l ∧ k ∉ blk r) ∧ (blk l).Nodup ∧ (blk r).Nodup ∧ (∀ k ∈ blk l, k ∉ blk r) := by
  rw [blk, List.nodup_cons, List.nodup_append, List.nodup_append] at h
  obtain ⟨h1, h2, ⟨h3, h4, h5⟩, h6⟩ := h
  refine ⟨fun hm => h1 (List.mem_append.2 (.inl hm)), fun hm => h1 (List.mem_append.2 (.inr (List.mem_append.2 (.inl hm)))), fun hm => h1 (List.mem_append.2 (.inr (List.mem_append.2 (.inr hm)))), fun k hk => ⟨fun hm => h6 k hk k (List.mem_append.2 (.inl hm)) rfl, fun hm => h6 k hk k (List.mem_append.2 (.inr hm)) rfl⟩, h3, h4, fun k hk hm => h5 k hk k hm rfl⟩
/-- What takes the place of a tree below the root. -/
theorem plug_in {N V : TypeId} {w w' : World} {s : Tr} : ∀ {t : Tr} {ds : List Bool} {A : Addr}, ds ≠ [] → okW t ds → (blk t).Nodup → Wf t → In N V w t → (∀ k ∈ blk t, k ∉ blk (sub t ds) → k ≠ (slotOf A t ds).block → w'.heap[k]? = w.heap[k]?) → (∀ cs T, w.heap[(slotOf A t ds).block]? = some (.cells cs T (0, 0)) → w'.heap[(slotOf A t ds).block]? = some (.cells (cs.setIfInBounds (slotOf A t ds).off (rt s)) T (0, 0))) → In N V w' s → In N V w' (plug t ds s)
  | t, [], A, h, _, _, _, _, _, _, _ => absurd rfl h
  | .nil, _ :: _, A, _, h, _, _, _, _, _, _ => h.elim
  | .node g q v l r, d :: ds, A, _, ho, hn, hw, hi, hk, hs, hin => by
    obtain ⟨n1, n2, n3, n4, n5, n6, n7⟩ := nodup_parts hn
    rw [plug]
    rw [okW] at ho
    rw [slotOf] at hk hs
    rw [sub] at hk
    cases d with
    | true =>
      rw [if_pos rfl] at ho hs ⊢
      simp only [if_true] at hk
      by_cases he : ds = []
      · subst he
        rw [slotOf] at hs
        simp only [slotOf, sub] at hk
        have h0 := hs _ _ hi.1
        rw [cells_r hw.1.1] at h0
        rw [plug]
        refine ⟨h0, hi.2.1.keep fun k hm => hk k ?_ (n4 k hm).2 ?_, hi.2.2.1.keep fun k hm => hk k ?_ (n7 k hm) ?_, hin⟩
        · exact List.mem_cons_of_mem _ (List.mem_append.2 (.inl hm))
        · intro hc; rw [hc] at hm; exact n1 hm
        · exact List.mem_cons_of_mem _ (List.mem_append.2 (.inr (List.mem_append.2 (.inl hm))))
        · intro hc; rw [hc] at hm; exact n2 hm
      · obtain ⟨b1, _⟩ := slot_block (A := ⟨g, 20, none⟩) he ho
        have hcell : cellsOf q v l (plug r ds s) = cellsOf q v l r := by unfold cellsOf; rw [rt_plug he ho]
        refine ⟨by rw [hcell]; exact (hk g List.mem_cons_self (fun hm => n3 (sub_blk hm)) fun hc => n3 (by rw [hc]; exact b1)).trans hi.1, hi.2.1.keep fun k hm => hk k ?_ (fun h2 => (n4 k hm).2 (sub_blk h2)) ?_, hi.2.2.1.keep fun k hm => hk k ?_ (fun h2 => n7 k hm (sub_blk h2)) ?_, plug_in (A := ⟨g, 20, none⟩) he ho n6 hw.2.2.2.2 hi.2.2.2 (fun k hm => hk k ?_) hs hin⟩
        · exact List.mem_cons_of_mem _ (List.mem_append.2 (.inl hm))
        · intro hc; rw [hc] at hm; exact (n4 _ hm).2 b1
        · exact List.mem_cons_of_mem _ (List.mem_append.2 (.inr (List.mem_append.2 (.inl hm))))
        · intro hc; rw [hc] at hm; exact n7 _ hm b1
        · exact List.mem_cons_of_mem _ (List.mem_append.2 (.inr (List.mem_append.2 (.inr hm))))
    | false =>
      rw [if_neg (by decide)] at ho hs ⊢
      simp only [Bool.false_eq_true, if_false] at hk
      by_cases he : ds = []
      · subst he
        rw [slotOf] at hs
        simp only [slotOf, sub] at hk
        have h0 := hs _ _ hi.1
        rw [cells_l hw.1.1] at h0
        rw [plug]
        refine ⟨h0, hi.2.1.keep fun k hm => hk k ?_ (n4 k hm).1 ?_, hin, hi.2.2.2.keep fun k hm => hk k ?_ (fun h2 => n7 k h2 hm) ?_⟩
        · exact List.mem_cons_of_mem _ (List.mem_append.2 (.inl hm))
        · intro hc; rw [hc] at hm; exact n1 hm
        · exact List.mem_cons_of_mem _ (List.mem_append.2 (.inr (List.mem_append.2 (.inr hm))))
        · intro hc; rw [hc] at hm; exact n3 hm
      · obtain ⟨b1, _⟩ := slot_block (A := ⟨g, 19, none⟩) he ho
        have hcell : cellsOf q v (plug l ds s) r = cellsOf q v l r := by unfold cellsOf; rw [rt_plug he ho]
        refine ⟨by rw [hcell]; exact (hk g List.mem_cons_self (fun hm => n2 (sub_blk hm)) fun hc => n2 (by rw [hc]; exact b1)).trans hi.1, hi.2.1.keep fun k hm => hk k ?_ (fun h2 => (n4 k hm).1 (sub_blk h2)) ?_, plug_in (A := ⟨g, 19, none⟩) he ho n5 hw.2.2.2.1 hi.2.2.1 (fun k hm => hk k ?_) hs hin, hi.2.2.2.keep fun k hm => hk k ?_ (fun h2 => n7 k (sub_blk h2) hm) ?_⟩
        · exact List.mem_cons_of_mem _ (List.mem_append.2 (.inl hm))
        · intro hc; rw [hc] at hm; exact (n4 _ hm).1 b1
        · exact List.mem_cons_of_mem _ (List.mem_append.2 (.inr (List.mem_append.2 (.inl hm))))
        · exact List.mem_cons_of_mem _ (List.mem_append.2 (.inr (List.mem_append.2 (.inr hm))))
        · intro hc; rw [hc] at hm; exact n7 _ b1 hm
/-- A cell of its own is set. -/
theorem setCell_same {w : World} {b o : Nat} {cs : Array Value} {T : TypeId} (h : w.heap[b]? = some (.cells cs T (0, 0))) (u : Value) : (w.setCell ⟨b, o, none⟩ u).heap[b]? = some (.cells (cs.setIfInBounds o u) T (0, 0)) := by
  rw [heap_setCell_same w b o _ _ _ h]
theorem setCell_other {w : World} {b o k : Nat} (u : Value) (hk : k ≠ b) : (w.setCell ⟨b, o, none⟩ u).heap[k]? = w.heap[k]? :=
  Below.heap_setCell _ _ _ _ hk
end Go.Proofs.Ytnbohhiooigmbaa
