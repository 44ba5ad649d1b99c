/-
  Tries in memory: the blocks of a tree after a put or a removal; a trie of two trees; no walk.
  Conditions: none.
-/
import Derived.Test.YtnbohhiooigmbaaTm
import Derived.Test.YtnbohhiooigmbaaTy
namespace Go.Proofs.Ytnbohhiooigmbaa
open Go.ChangeShapes Go.WideShapes Go.ChangeAt Go.RowKit
set_option linter.unusedVariables false

theorem nodup_node {g : Nat} {q : Px} {v : Option (Nat × Value)} {l r : Tr} (h1 : g ∉ vbl v) (h2 : g ∉ blk l) (h3 : g ∉ blk r) (h4 : ∀ k ∈ vbl v, k ∉ blk l ∧ k ∉ blk r) (h5 : (blk l).Nodup) (h6 : (blk r).Nodup) (h7 : ∀ k ∈ blk l, k ∉ blk r) : (blk (.node g q v l r)).Nodup := by
  rw [blk, List.nodup_cons, List.nodup_append, List.nodup_append]
  refine ⟨fun hm => ?_, ?_, ⟨h5, h6, fun a ha b hb hab => h7 a ha (hab ▸ hb)⟩, fun a ha b hb hab => ?_⟩
  · rcases List.mem_append.1 hm with hm | hm
    · exact h1 hm
    · rcases List.mem_append.1 hm with hm | hm
      · exact h2 hm
      · exact h3 hm
  · cases v with
    | none => exact List.nodup_nil
    | some u => obtain ⟨vb, x⟩ := u; exact List.nodup_cons.2 ⟨fun h => (List.not_mem_nil h).elim, List.nodup_nil⟩
  · subst hab
    rcases List.mem_append.1 hb with hb | hb
    · exact (h4 a ha).1 hb
    · exact (h4 a ha).2 hb
theorem blk_node {g : Nat} {q : Px} {v : Option (Nat × Value)} {l r : Tr} {k : Nat} : k ∈ blk (.node g q v l r) ↔ k = g ∨ k ∈ vbl v ∨ k ∈ blk l ∨ k ∈ blk r := by
  rw [blk, List.mem_cons, List.mem_append, List.mem_append]
theorem blk_fork {g : Nat} {q : Px} {v : Option (Nat × Value)} {d : Bool} {s u : Tr} {k : Nat} : k ∈ blk (fork g q v d s u) ↔ k = g ∨ k ∈ vbl v ∨ k ∈ blk s ∨ k ∈ blk u := by
  unfold fork
  cases d
  · rw [if_neg (by decide), blk_node]
  · rw [if_pos rfl, blk_node, or_comm (a := k ∈ blk u)]
theorem nodup_fork {g : Nat} {q : Px} {v : Option (Nat × Value)} {d : Bool} {l r : Tr} (h1 : g ∉ vbl v) (h2 : g ∉ blk l) (h3 : g ∉ blk r) (h4 : ∀ k ∈ vbl v, k ∉ blk l ∧ k ∉ blk r) (h5 : (blk l).Nodup) (h6 : (blk r).Nodup) (h7 : ∀ k ∈ blk l, k ∉ blk r) : (blk (fork g q v d l r)).Nodup := by
  unfold fork
  cases d
  · exact nodup_node h1 h2 h3 h4 h5 h6 h7
  · exact nodup_node h1 h3 h2 (fun k hk => (h4 k hk).symm) h6 h5 fun k hk hm => h7 k hm hk
theorem vbl_one {v : Nat × Value} {k : Nat} : k ∈ vbl (some v) ↔ k = v.1 := by obtain ⟨vb, x⟩ := v; exact List.mem_singleton
theorem top_blk {p : Px} {v : Nat × Value} {g1 g2 : Nat} : ∀ {t : Tr} {k : Nat}, k ∈ blk (top p v g1 g2 t) → k ∈ blk t ∨ k = v.1 ∨ k = g1 ∨ k = g2
  | .nil, k, h => by
    rcases blk_node.1 h with h | h | h | h
    · exact .inr (.inr (.inl h))
    · exact .inr (.inl (vbl_one.1 h))
    · cases h
    · cases h
  | .node g q u l r, k, h => by
    rw [top] at h
    split at h
    · rcases blk_node.1 h with h | h | h | h
      · exact .inl (blk_node.2 (.inl h))
      · exact .inr (.inl (vbl_one.1 h))
      · exact .inl (blk_node.2 (.inr (.inr (.inl h))))
      · exact .inl (blk_node.2 (.inr (.inr (.inr h))))
    · split at h
      · rcases blk_fork.1 h with h | h | h | h
        · exact .inr (.inr (.inl h))
        · exact .inr (.inl (vbl_one.1 h))
        · exact .inl h
        · cases h
      · rcases blk_fork.1 h with h | h | h | h
        · exact .inr (.inr (.inl h))
        · cases h
        · exact .inl h
        · rcases blk_node.1 h with h | h | h | h
          · exact .inr (.inr (.inr h))
          · exact .inr (.inl (vbl_one.1 h))
          · cases h
          · cases h
theorem ins_blk {p : Px} {v : Nat × Value} {g1 g2 : Nat} : ∀ {t : Tr} {k : Nat}, k ∈ blk (ins p v g1 g2 t) → k ∈ blk t ∨ k = v.1 ∨ k = g1 ∨ k = g2
  | .nil, k, h => top_blk (t := .nil) h
  | .node g q u l r, k, h => by
    unfold ins at h
    split at h
    · split at h
      · rcases blk_node.1 h with h | h | h | h
        · exact .inl (blk_node.2 (.inl h))
        · exact .inl (blk_node.2 (.inr (.inl h)))
        · exact .inl (blk_node.2 (.inr (.inr (.inl h))))
        · rcases ins_blk h with h | h
          · exact .inl (blk_node.2 (.inr (.inr (.inr h))))
          · exact .inr h
      · rcases blk_node.1 h with h | h | h | h
        · exact .inl (blk_node.2 (.inl h))
        · exact .inl (blk_node.2 (.inr (.inl h)))
        · rcases ins_blk h with h | h
          · exact .inl (blk_node.2 (.inr (.inr (.inl h))))
          · exact .inr h
        · exact .inl (blk_node.2 (.inr (.inr (.inr h))))
    · exact top_blk h
theorem top_nodup {p : Px} {v : Nat × Value} {g1 g2 : Nat} (d1 : v.1 ≠ g1) (d2 : v.1 ≠ g2) (d3 : g1 ≠ g2) : ∀ {t : Tr}, (blk t).Nodup → v.1 ∉ blk t → g1 ∉ blk t → g2 ∉ blk t → (blk (top p v g1 g2 t)).Nodup
  | .nil, _, _, _, _ => nodup_node (fun h => d1 (vbl_one.1 h).symm) (fun h => by cases h) (fun h => by cases h) (fun k hk => ⟨fun h => (by cases h), fun h => by cases h⟩) List.nodup_nil List.nodup_nil (fun k hk => by cases hk)
  | .node g q u l r, hn, h1, h2, h3 => by
    obtain ⟨n1, n2, n3, n4, n5, n6, n7⟩ := nodup_parts hn
    rw [top]
    split
    · refine nodup_node (fun h => h1 (blk_node.2 (.inl (vbl_one.1 h).symm))) n2 n3 (fun k hk => ?_) n5 n6 n7
      rw [vbl_one.1 hk]
      exact ⟨fun h => h1 (blk_node.2 (.inr (.inr (.inl h)))), fun h => h1 (blk_node.2 (.inr (.inr (.inr h))))⟩
    · split
      · exact nodup_fork (fun h => d1 (vbl_one.1 h).symm) h2 (fun h => by cases h) (fun k hk => ⟨by rw [vbl_one.1 hk]; exact h1, fun h => by cases h⟩) hn List.nodup_nil (fun k hk hm => by cases hm)
      · have hone : (blk (.node g2 p (some v) .nil .nil)).Nodup := nodup_node (fun h => d2 (vbl_one.1 h).symm) (fun h => by cases h) (fun h => by cases h) (fun k hk => ⟨fun h => (by cases h), fun h => by cases h⟩) List.nodup_nil List.nodup_nil (fun k hk => by cases hk)
        have hmem : ∀ {k}, k ∈ blk (Tr.node g2 p (some v) .nil .nil) → k = g2 ∨ k = v.1 := fun hk => by
          rcases blk_node.1 hk with h | h | h | h
          · exact .inl h
          · exact .inr (vbl_one.1 h)
          · cases h
          · cases h
        refine nodup_fork (fun h => by cases h) h2 (fun h => ?_) (fun k hk => by cases hk) hn hone fun k hk hm => ?_
        · rcases hmem h with h | h
          · exact d3 h
          · exact d1 h.symm
        · rcases hmem hm with h | h
          · rw [h] at hk; exact h3 hk
          · rw [h] at hk; exact h1 hk
theorem ins_nodup {p : Px} {v : Nat × Value} {g1 g2 : Nat} (d1 : v.1 ≠ g1) (d2 : v.1 ≠ g2) (d3 : g1 ≠ g2) : ∀ {t : Tr}, (blk t).Nodup → v.1 ∉ blk t → g1 ∉ blk t → g2 ∉ blk t → (blk (ins p v g1 g2 t)).Nodup
  | .nil, a, b, c, d => top_nodup d1 d2 d3 (t := .nil) a b c d
  | .node g q u l r, hn, h1, h2, h3 => by
    obtain ⟨n1, n2, n3, n4, n5, n6, n7⟩ := nodup_parts hn
    have fresh : ∀ {k}, k ∈ blk (Tr.node g q u l r) → k ≠ v.1 ∧ k ≠ g1 ∧ k ≠ g2 := fun hk => ⟨fun h => h1 (h ▸ hk), fun h => h2 (h ▸ hk), fun h => h3 (h ▸ hk)⟩
    unfold ins
    split
    · split
      · refine nodup_node n1 n2 (fun h => ?_) (fun k hk => ⟨(n4 k hk).1, fun h => ?_⟩) n5 (ins_nodup d1 d2 d3 n6 (fun h => h1 (blk_node.2 (.inr (.inr (.inr h))))) (fun h => h2 (blk_node.2 (.inr (.inr (.inr h))))) (fun h => h3 (blk_node.2 (.inr (.inr (.inr h)))))) fun k hk h => ?_
        · have f := fresh (k := g) (blk_node.2 (.inl rfl))
          rcases ins_blk h with h | h | h | h
          · exact n3 h
          · exact f.1 h
          · exact f.2.1 h
          · exact f.2.2 h
        · have f := fresh (k := k) (blk_node.2 (.inr (.inl hk)))
          rcases ins_blk h with h | h | h | h
          · exact (n4 k hk).2 h
          · exact f.1 h
          · exact f.2.1 h
          · exact f.2.2 h
        · have f := fresh (k := k) (blk_node.2 (.inr (.inr (.inl hk))))
          rcases ins_blk h with h | h | h | h
          · exact n7 k hk h
          · exact f.1 h
          · exact f.2.1 h
          · exact f.2.2 h
      · refine nodup_node n1 (fun h => ?_) n3 (fun k hk => ⟨fun h => ?_, (n4 k hk).2⟩) (ins_nodup d1 d2 d3 n5 (fun h => h1 (blk_node.2 (.inr (.inr (.inl h))))) (fun h => h2 (blk_node.2 (.inr (.inr (.inl h))))) (fun h => h3 (blk_node.2 (.inr (.inr (.inl h)))))) n6 fun k hk h => ?_
        · have f := fresh (k := g) (blk_node.2 (.inl rfl))
          rcases ins_blk h with h | h | h | h
          · exact n2 h
          · exact f.1 h
          · exact f.2.1 h
          · exact f.2.2 h
        · have f := fresh (k := k) (blk_node.2 (.inr (.inl hk)))
          rcases ins_blk h with h | h | h | h
          · exact (n4 k hk).1 h
          · exact f.1 h
          · exact f.2.1 h
          · exact f.2.2 h
        · have f := fresh (k := k) (blk_node.2 (.inr (.inr (.inr h))))
          rcases ins_blk hk with h' | h' | h' | h'
          · exact n7 k h' h
          · exact f.1 h'
          · exact f.2.1 h'
          · exact f.2.2 h'
    · exact top_nodup d1 d2 d3 hn h1 h2 h3
theorem fix_sub (g : Nat) (q : Px) (v : Option (Nat × Value)) (l r : Tr) : (blk (fix g q v l r)).Sublist (blk (.node g q v l r)) := by
  cases v with
  | some u => cases l <;> cases r <;> exact List.Sublist.refl _
  | none =>
    cases l with
    | nil =>
      cases r with
      | nil => exact List.nil_sublist _
      | node g3 q3 v3 l3 r3 => exact List.sublist_cons_self _ _
    | node g2 q2 v2 l2 r2 =>
      cases r with
      | nil =>
        show (blk (Tr.node g2 q2 v2 l2 r2)).Sublist (g :: (vbl none ++ (blk (Tr.node g2 q2 v2 l2 r2) ++ blk .nil)))
        rw [show blk Tr.nil = [] from rfl, List.append_nil]
        exact List.sublist_cons_self _ _
      | node g3 q3 v3 l3 r3 => exact List.Sublist.refl _
theorem wo_sub {p : Px} : ∀ t : Tr, (blk (wo p t)).Sublist (blk t)
  | .nil => List.Sublist.refl _
  | .node g q v l r => by
    unfold wo
    split
    · refine (fix_sub g q none l r).trans ?_
      rw [blk, blk]
      exact List.Sublist.cons_cons _ (List.sublist_append_right _ _)
    · split
      · refine (fix_sub g q v l (wo p r)).trans ?_
        rw [blk, blk]
        exact List.Sublist.cons_cons _ (List.Sublist.append_left (List.Sublist.append_left (wo_sub r) _) _)
      · refine (fix_sub g q v (wo p l) r).trans ?_
        rw [blk, blk]
        exact List.Sublist.cons_cons _ (List.Sublist.append_left (List.Sublist.append_right (wo_sub l) _) _)
def ptrs (D : List (Nat × Px × Nat × Value)) : List Value := D.map fun e => .pointer (some ⟨e.1, 0, none⟩)
theorem ptrs_append (D E : List (Nat × Px × Nat × Value)) : ptrs (D ++ E) = ptrs D ++ ptrs E := List.map_append
theorem ptrs_one (D : List (Nat × Px × Nat × Value)) : ∀ u ∈ ptrs D, u.oneCell' = true := by
  intro u hu
  obtain ⟨e, -, rfl⟩ := List.mem_map.1 hu
  rfl

/-- What lies in memory of a node with a value on the way of an address. -/
theorem pth_in {N V : TypeId} {w : World} {c : Bool} {ys : List Nat} : ∀ {t : Tr}, In N V w t → Wf t → ∀ e ∈ pth c ys t, ∃ l r, w.heap[e.1]? = some (.cells (cellsOf e.2.1 (some (e.2.2.1, e.2.2.2)) l r).toArray N (0, 0)) ∧ w.heap[e.2.2.1]? = some (.cells #[e.2.2.2] V (0, 0)) ∧ okP e.2.1
  | .nil, _, _, e, he => by cases he
  | .node g q v l r, hi, hw, e, he => by
    rw [pth] at he
    split at he
    · rcases List.mem_append.1 he with h | h
      · cases v with
        | none => cases h
        | some u =>
          obtain ⟨vb, x⟩ := u
          rw [List.mem_singleton.1 h]
          exact ⟨l, r, hi.1, hi.2.1, hw.1⟩
      · split at h
        · exact pth_in hi.2.2.2 hw.2.2.2.2 e h
        · exact pth_in hi.2.2.1 hw.2.2.2.1 e h
    · cases he
theorem pth_len {c : Bool} {ys : List Nat} : ∀ {t : Tr} (k : Nat), Wf t → (∀ x ∈ t.all, (k : Int) ≤ x.n) → (pth c ys t).length ≤ 129 - k
  | .nil, k, _, _ => Nat.zero_le _
  | .node g q v l r, k, hw, hk => by
    have h1 := hk q List.mem_cons_self
    have h2 := ok_le hw.1
    have hl := pth_len (c := c) (ys := ys) (k + 1) hw.2.2.2.1 fun x hx => by have := (hw.2.1 x hx).2.1; omega
    have hr := pth_len (c := c) (ys := ys) (k + 1) hw.2.2.2.2 fun x hx => by have := (hw.2.2.1 x hx).2.1; omega
    have he : (entN g q v).length ≤ 1 := by cases v <;> simp [entN]
    rw [pth]
    split
    · rw [List.length_append]
      split <;> omega
    · exact Nat.zero_le _
theorem pth_129 {c : Bool} {ys : List Nat} {t : Tr} (hw : Wf t) : (pth c ys t).length ≤ 129 := pth_len 0 hw fun x hx => (hw.ok x hx).parts.2.1
/-- A trie in memory: its header, the trees of the two families, how many prefixes. -/
structure Tri (N V T : TypeId) (w : World) (a : Nat) (t4 t6 : Tr) : Prop where
  head : w.heap[a]? = some (.cells #[rt t4, rt t6, .int .i64 ((t4.toL ++ t6.toL).length : Nat)] T (0, 0))
  i4 : In N V w t4
  i6 : In N V w t6
  nd : (a :: (blk t4 ++ blk t6)).Nodup
  w4 : Wf t4
  w6 : Wf t6
  f4 : ∀ q ∈ t4.all, q.b = false
  f6 : ∀ q ∈ t6.all, q.b = true
/-- The blocks of a trie. -/
def own (a : Nat) (t4 t6 : Tr) (k : Nat) : Prop := k = a ∨ k ∈ blk t4 ∨ k ∈ blk t6
theorem Tri.fr {N V T : TypeId} {w w' : World} {a : Nat} {t4 t6 : Tr} (h : Tri N V T w a t4 t6) {S : Nat → Prop} (hf : Fr S w w') (hS : ∀ k, own a t4 t6 k → ¬ S k) : Tri N V T w' a t4 t6 :=
  ⟨(hf.block a (some_lt h.head) (hS a (.inl rfl))).trans h.head, h.i4.fr hf fun k hk => hS k (.inr (.inl hk)), h.i6.fr hf fun k hk => hS k (.inr (.inr hk)), h.nd, h.w4, h.w6, h.f4, h.f6⟩
theorem Tri.no {N V T : TypeId} {w w' : World} {a : Nat} {t4 t6 : Tr} (h : Tri N V T w a t4 t6) (hf : Fr No w w') : Tri N V T w' a t4 t6 := h.fr hf fun _ _ h => h
theorem Tri.lt {N V T : TypeId} {w : World} {a : Nat} {t4 t6 : Tr} (h : Tri N V T w a t4 t6) {k : Nat} (hk : own a t4 t6 k) : k < w.heap.size := by
  rcases hk with rfl | hk | hk
  · exact some_lt h.head
  · exact h.i4.lt k hk
  · exact h.i6.lt k hk
theorem results_agg_tmp2 {P : Program} {fn : Func} {n m1 m2 : Nat} {t : TypeId} (h : fn.results = #[.cell n t, .tmp m1, .tmp m2]) (tmps : Array Value) {w : World} {b k : Nat} {cs : Array Value} (hg : Sem.run P (isAgg t) w = .ok true w) (hz : Sem.run P (Go.sizeOf t) w = .ok k w)
    (hp : tmps.getD n undef = .pointer (some ⟨b, 0, none⟩)) (hl : Sem.run P (loadCellsFrom ⟨b, 0, none⟩ 0 k #[]) w = .ok cs w) :
    (results fn tmps).run P w = .ok (.tuple #[.agg cs, tmps.getD m1 undef, tmps.getD m2 undef]) w := by
  simp only [results, h]
  simp [Sem.run_bind, Result.andThen, loadVar, loadCells] at hp ⊢
  simp [hp, asAddr, hg, hz, hl]
/-- The last prefix of a way. -/
def lastP (L : List (Nat × Px × Nat × Value)) : List Value := match L.getLast? with
  | none => pfx false zeros 0
  | some e => pfx e.2.1.b e.2.1.xs e.2.1.n
def lastV (z : Value) (L : List (Nat × Px × Nat × Value)) : Value := match L.getLast? with
  | none => z
  | some e => e.2.2.2
end Go.Proofs.Ytnbohhiooigmbaa
