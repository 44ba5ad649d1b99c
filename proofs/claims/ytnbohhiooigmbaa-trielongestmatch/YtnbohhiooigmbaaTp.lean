/-
  Tries in memory: what a put makes of the memory, once the place is written; no walk.
  Conditions: none.
-/
import Derived.Test.YtnbohhiooigmbaaTn
import Derived.Test.YtnbohhiooigmbaaWd
namespace Go.Proofs.Ytnbohhiooigmbaa
open Go.ChangeShapes Go.WideShapes Go.ChangeAt Go.RowKit
set_option linter.unusedVariables false

theorem slot_notin : ∀ {t : Tr} {ds : List Bool} {A : Addr}, ds ≠ [] → okW t ds → (blk t).Nodup → (slotOf A t ds).block ∉ blk (sub t ds)
  | t, [], A, h, _, _ => absurd rfl h
  | .nil, _ :: _, A, _, h, _ => h.elim
  | .node g q v l r, d :: ds, A, _, ho, hn => by
    obtain ⟨n1, n2, n3, n4, n5, n6, n7⟩ := nodup_parts hn
    rw [slotOf, sub]
    rw [okW] at ho
    cases d with
    | true =>
      rw [if_pos rfl] at ho ⊢
      rw [if_pos rfl]
      by_cases he : ds = []
      · subst he; rw [slotOf, sub]; exact n3
      · exact slot_notin he ho n6
    | false =>
      rw [if_neg (by decide)] at ho ⊢
      rw [if_neg (by decide)]
      by_cases he : ds = []
      · subst he; rw [slotOf, sub]; exact n2
      · exact slot_notin he ho n5
theorem sub_nodup : ∀ {t : Tr} {ds : List Bool}, (blk t).Nodup → (blk (sub t ds)).Nodup
  | t, [], h => by rw [sub]; exact h
  | .nil, _ :: _, h => h
  | .node g q v l r, d :: ds, h => by
    obtain ⟨n1, n2, n3, n4, n5, n6, n7⟩ := nodup_parts h
    rw [sub]
    split
    · exact sub_nodup n6
    · exact sub_nodup n5
theorem slot_form (a ao : Nat) : ∀ (t : Tr) (ds : List Bool), okW t ds → ∃ b o, slotOf ⟨a, ao, none⟩ t ds = ⟨b, o, none⟩ := by
  intro t ds ho
  by_cases he : ds = []
  · subst he; exact ⟨a, ao, by rw [slotOf]⟩
  · obtain ⟨_, o, h, _⟩ := slot_block (A := ⟨a, ao, none⟩) he ho
    exact ⟨_, o, h⟩
/-- Whatever the value, the root is the same. -/
theorem rt_top (p : Px) (v v' : Nat × Value) (g1 g2 : Nat) (t : Tr) : rt (top p v g1 g2 t) = rt (top p v' g1 g2 t) := by
  cases t with
  | nil => rfl
  | node g q u l r =>
    rw [top, top]
    split
    · rfl
    · split
      · unfold fork; split <;> rfl
      · unfold fork; split <;> rfl
/-- The tree in memory, once the place and the value are written. -/
theorem prov_fin {N V T : TypeId} {w w' w'' : World} {a ao gp g1 g2 : Nat} {t : Tr} {p : Px} {v : Nat × Value} (hi : In N V w t) (hw : Wf t) (hn : (blk t).Nodup) (ha : a ∉ blk t)
    (hF : Fr (fun k => k = (slotOf ⟨a, ao, none⟩ t (fp t p)).block) w w')
    (hslot : ∀ cs T, w.heap[(slotOf ⟨a, ao, none⟩ t (fp t p)).block]? = some (.cells cs T (0, 0)) → w'.heap[(slotOf ⟨a, ao, none⟩ t (fp t p)).block]? = some (.cells (cs.setIfInBounds (slotOf ⟨a, ao, none⟩ t (fp t p)).off (rt (top p v g1 g2 (sub t (fp t p))))) T (0, 0)))
    (hgp : (gp ∉ blk t) ∨ gp ∈ blk (sub t (fp t p)))
    (hk : ∀ k, k < w'.heap.size → k ≠ gp → k ≠ a → w''.heap[k]? = w'.heap[k]?)
    (hin : In N V w'' (top p v g1 g2 (sub t (fp t p)))) : In N V w'' (ins p v g1 g2 t) := by
  rw [ins_plug]
  by_cases he : fp t p = []
  · rw [he] at hin ⊢
    rw [sub] at hin
    rw [plug, sub]
    exact hin
  · have ho := fp_ok t p
    obtain ⟨hsb, -⟩ := slot_block (A := ⟨a, ao, none⟩) he ho
    have hsn := slot_notin (A := ⟨a, ao, none⟩) he ho hn
    refine plug_in (A := ⟨a, ao, none⟩) he ho hn hw hi (fun k hm h1 h2 => ?_) (fun cs T h => ?_) hin
    · have hlt := hi.lt k hm
      rw [hk k (Nat.lt_of_lt_of_le hlt hF.size) (fun hc => ?_) (fun hc => ha (hc ▸ hm)), hF.block k hlt h2]
      rw [hc] at hm h1
      rcases hgp with hgp | hgp
      · exact hgp hm
      · exact h1 hgp
    · rw [hk _ (Nat.lt_of_lt_of_le (hi.lt _ hsb) hF.size) (fun hc => ?_) (fun hc => ha (hc ▸ hsb))]
      · exact hslot cs T h
      · rcases hgp with hgp | hgp
        · exact hgp (hc ▸ hsb)
        · exact hsn (hc ▸ hgp)
theorem ins_rt {a ao : Nat} {p : Px} {v : Nat × Value} {g1 g2 : Nat} {t : Tr} (he : fp t p ≠ []) : rt (ins p v g1 g2 t) = rt t := by
  rw [ins_plug, rt_plug he (fp_ok t p)]
theorem ins_rt_nil {p : Px} {v : Nat × Value} {g1 g2 : Nat} {t : Tr} (he : fp t p = []) : rt (ins p v g1 g2 t) = rt (top p v g1 g2 (sub t (fp t p))) := by
  rw [ins_plug, he, plug]
/-- The joint of a tree and a prefix that it does not cover. -/
def joint (p : Px) (g1 g : Nat) (q : Px) (u : Option (Nat × Value)) (l r : Tr) : Tr := fork g1 (com q p) none (sideB (com q p) q.b q.xs) (.node g q u l r) .nil
theorem joint_wf {p : Px} {g1 g : Nat} {q : Px} {u : Option (Nat × Value)} {l r : Tr} (hp : okP p) (hw : Wf (.node g q u l r)) (hb : q.b = p.b) (hne : q ≠ p) (hc : cov q p ≠ true) : Wf (joint p g1 g q u l r) ∧ (com q p).n < q.n ∧ okP (com q p) := by
  obtain ⟨c1, c2, c3, c4, c5, c6⟩ := com_spec hw.1 hp hb
  have hlt : (com q p).n < q.n := by
    refine cov_lt c1 hw.1 c2 fun h => ?_
    rw [h] at c3
    exact hc c3
  refine ⟨?_, hlt, c1⟩
  unfold joint
  rw [side_cov c1 hw.1 c2 hlt]
  exact fork_wf c1 (under_node hw c2 hlt c1) (under_nil _ _) hw trivial
theorem joint_here {p : Px} {g1 g : Nat} {q : Px} {u : Option (Nat × Value)} {l r : Tr} (h : com q p = p) : fp (joint p g1 g q u l r) p = [] := by
  unfold joint fork
  split <;> (rw [fp, if_neg (fun hc => hc.1 h)])
theorem joint_side {p : Px} {g1 g : Nat} {q : Px} {u : Option (Nat × Value)} {l r : Tr} (hp : okP p) (hq : okP q) (hb : q.b = p.b) (hc : cov q p ≠ true) (h : com q p ≠ p) : fp (joint p g1 g q u l r) p = [!sideB (com q p) q.b q.xs] ∧ sub (joint p g1 g q u l r) [!sideB (com q p) q.b q.xs] = .nil := by
  obtain ⟨c1, c2, c3, c4, c5, c6⟩ := com_spec hq hp hb
  have hlt : (com q p).n < q.n := by
    refine cov_lt c1 hq c2 fun h => ?_
    rw [h] at c3
    exact hc c3
  have hlp := cov_lt c1 hp c3 h
  have hs := com_split hq hp hb hlt hlp
  have e1 := side_cov c1 hq c2 hlt
  have e2 := side_cov c1 hp c3 hlp
  have e3 : sideB (com q p) p.b p.xs = !sideB (com q p) q.b q.xs := by
    rw [e1, e2]
    revert hs
    cases bitP q.xs (com q p).n <;> cases bitP p.xs (com q p).n <;> simp
  unfold joint fork
  cases hd : sideB (com q p) q.b q.xs
  · rw [hd] at e3
    rw [if_neg (by decide), fp, if_pos ⟨h, c3⟩, e3, if_pos (by decide), sub]
    exact ⟨rfl, rfl⟩
  · rw [hd] at e3
    rw [if_pos rfl, fp, if_pos ⟨h, c3⟩, e3, if_neg (by decide), sub]
    exact ⟨rfl, rfl⟩
theorem set_self {cs : Array Value} {i : Nat} {u : Value} (h : cs[i]? = some u) : cs.setIfInBounds i u = cs := by
  apply Array.ext_getElem?
  intro j
  rw [Array.getElem?_setIfInBounds]
  split
  · rename_i he; subst he; rw [h]; simp [(Array.getElem?_eq_some_iff.1 h).1]
  · rfl
theorem cell_heap {w : World} {b o : Nat} {cs : Array Value} {T : TypeId} {f : Nat × Nat} {u : Value} (h : w.heap[b]? = some (.cells cs T f)) (hc : w.cell? ⟨b, o, none⟩ = some u) : cs[o]? = some u := by
  simpa [World.cell?, h] using hc
end Go.Proofs.Ytnbohhiooigmbaa
