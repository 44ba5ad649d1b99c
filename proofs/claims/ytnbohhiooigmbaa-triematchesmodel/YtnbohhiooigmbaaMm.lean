/-
  Tries in memory: what a put makes of the memory, once the place is written; no walk.
  Conditions: none.
  Tries in memory: a trie once a prefix is put in or taken away; its list; no walk.
  Conditions: none.
  A trie as a list, its blocks apart from a given set; no walk.
  Conditions: none.
-/
import Derived.Test.YtnbohhiooigmbaaTn
import Derived.Test.YtnbohhiooigmbaaWd
namespace Go.Proofs.Ytnbohhiooigmbaa
open Go.ChangeShapes Go.WideShapes Go.ChangeAt Go.RowKit
set_option linter.unusedVariables false

theorem slot_notin : ∀ {t : Tr} {ds : List Bool} {A : Addr}, ds ≠ [] → okW t ds → (blk t).Nodup → (slotOf A t ds).block ∉ blk (sub t ds)
  | t, [], A, h, _, _ => absurd rfl h
  | .nil, _ :: _, A, _, h, _ => h.elim
  | .node g q v l r, d :: ds, A, _, ho, hn => by
    obtain ⟨n1, n2, n3, n4, n5, n6, n7⟩ := nodup_parts hn
    rw [slotOf, sub]
    rw [okW] at ho
    cases d with
    | true =>
      rw [if_pos rfl] at ho ⊢
      rw [if_pos rfl]
      by_cases he : ds = []
      · subst he; rw [slotOf, sub]; exact n3
      · exact slot_notin he ho n6
    | false =>
      rw [if_neg (by decide)] at ho ⊢
      rw [if_neg (by decide)]
      by_cases he : ds = []
      · subst he; rw [slotOf, sub]; exact n2
      · exact slot_notin he ho n5
theorem sub_nodup : ∀ {t : Tr} {ds : List Bool}, (blk t).Nodup → (blk (sub t ds)).Nodup
  | t, [], h => by rw [sub]; exact h
  | .nil, _ :: _, h => h
  | .node g q v l r, d :: ds, h => by
    obtain ⟨n1, n2, n3, n4, n5, n6, n7⟩ := nodup_parts h
    rw [sub]
    split
    · exact sub_nodup n6
    · exact sub_nodup n5
theorem slot_form (a ao : Nat) : ∀ (t : Tr) (ds : List Bool), okW t ds → ∃ b o, slotOf ⟨a, ao, none⟩ t ds = ⟨b, o, none⟩ := by
  intro t ds ho
  by_cases he : ds = []
  · subst he; exact ⟨a, ao, by rw [slotOf]⟩
  · obtain ⟨_, o, h, _⟩ := slot_block (A := ⟨a, ao, none⟩) he ho
    exact ⟨_, o, h⟩
/-- Whatever the value, the root is the same. -/
theorem rt_top (p : Px) (v v' : Nat × Value) (g1 g2 : Nat) (t : Tr) : rt (top p v g1 g2 t) = rt (top p v' g1 g2 t) := by
  cases t with
  | nil => rfl
  | node g q u l r =>
    rw [top, top]
    split
    · rfl
    · split
      · unfold fork; split <;> rfl
      · unfold fork; split <;> rfl
/-- The tree in memory, once the place and the value are written. -/
theorem prov_fin {N V T : TypeId} {w w' w'' : World} {a ao gp g1 g2 : Nat} {t : Tr} {p : Px} {v : Nat × Value} (hi : In N V w t) (hw : Wf t) (hn : (blk t).Nodup) (ha : a ∉ blk t)
    (hF : Fr (fun k => k = (slotOf ⟨a, ao, none⟩ t (fp t p)).block) w w')
    (hslot : ∀ cs T, w.heap[(slotOf ⟨a, ao, none⟩ t (fp t p)).block]? = some (.cells cs T (0, 0)) → w'.heap[(slotOf ⟨a, ao, none⟩ t (fp t p)).block]? = some (.cells (cs.setIfInBounds (slotOf ⟨a, ao, none⟩ t (fp t p)).off (rt (top p v g1 g2 (sub t (fp t p))))) T (0, 0)))
    (hgp : (gp ∉ blk t) ∨ gp ∈ blk (sub t (fp t p)))
    (hk : ∀ k, k < w'.heap.size → k ≠ gp → k ≠ a → w''.heap[k]? = w'.heap[k]?)
    (hin : In N V w'' (top p v g1 g2 (sub t (fp t p)))) : In N V w'' (ins p v g1 g2 t) := by
  rw [ins_plug]
  by_cases he : fp t p = []
  · rw [he] at hin ⊢
    rw [sub] at hin
    rw [plug, sub]
    exact hin
  · have ho := fp_ok t p
    obtain ⟨hsb, -⟩ := slot_block (A := ⟨a, ao, none⟩) he ho
    have hsn := slot_notin (A := ⟨a, ao, none⟩) he ho hn
    refine plug_in (A := ⟨a, ao, none⟩) he ho hn hw hi (fun k hm h1 h2 => ?_) (fun cs T h => ?_) hin
    · have hlt := hi.lt k hm
      rw [hk k (Nat.lt_of_lt_of_le hlt hF.size) (fun hc => ?_) (fun hc => ha (hc ▸ hm)), hF.block k hlt h2]
      rw [hc] at hm h1
      rcases hgp with hgp | hgp
      · exact hgp hm
      · exact h1 hgp
    · rw [hk _ (Nat.lt_of_lt_of_le (hi.lt _ hsb) hF.size) (fun hc => ?_) (fun hc => ha (hc ▸ hsb))]
      · exact hslot cs T h
      · rcases hgp with hgp | hgp
        · exact hgp (hc ▸ hsb)
        · exact hsn (hc ▸ hgp)
theorem ins_rt {a ao : Nat} {p : Px} {v : Nat × Value} {g1 g2 : Nat} {t : Tr} (he : fp t p ≠ []) : rt (ins p v g1 g2 t) = rt t := by
  rw [ins_plug, rt_plug he (fp_ok t p)]
theorem ins_rt_nil {p : Px} {v : Nat × Value} {g1 g2 : Nat} {t : Tr} (he : fp t p = []) : rt (ins p v g1 g2 t) = rt (top p v g1 g2 (sub t (fp t p))) := by
  rw [ins_plug, he, plug]
/-- The joint of a tree and a prefix that it does not cover. -/
def joint (p : Px) (g1 g : Nat) (q : Px) (u : Option (Nat × Value)) (l r : Tr) : Tr := fork g1 (com q p) none (sideB (com q p) q.b q.xs) (.node g q u l r) .nil
theorem joint_wf {p : Px} {g1 g : Nat} {q : Px} {u : Option (Nat × Value)} {l r : Tr} (hp : okP p) (hw : Wf (.node g q u l r)) (hb : q.b = p.b) (hne : q ≠ p) (hc : cov q p ≠ true) : Wf (joint p g1 g q u l r) ∧ (com q p).n < q.n ∧ okP (com q p) := by
  obtain ⟨c1, c2, c3, c4, c5, c6⟩ := com_spec hw.1 hp hb
  have hlt : (com q p).n < q.n := by
    refine cov_lt c1 hw.1 c2 fun h => ?_
    rw [h] at c3
    exact hc c3
  refine ⟨?_, hlt, c1⟩
  unfold joint
  rw [side_cov c1 hw.1 c2 hlt]
  exact fork_wf c1 (under_node hw c2 hlt c1) (under_nil _ _) hw trivial
theorem joint_here {p : Px} {g1 g : Nat} {q : Px} {u : Option (Nat × Value)} {l r : Tr} (h : com q p = p) : fp (joint p g1 g q u l r) p = [] := by
  unfold joint fork
  split <;> (rw [fp, if_neg (fun hc => hc.1 h)])
theorem joint_side {p : Px} {g1 g : Nat} {q : Px} {u : Option (Nat × Value)} {l r : Tr} (hp : okP p) (hq : okP q) (hb : q.b = p.b) (hc : cov q p ≠ true) (h : com q p ≠ p) : fp (joint p g1 g q u l r) p = [!sideB (com q p) q.b q.xs] ∧ sub (joint p g1 g q u l r) [!sideB (com q p) q.b q.xs] = .nil := by
  obtain ⟨c1, c2, c3, c4, c5, c6⟩ := com_spec hq hp hb
  have hlt : (com q p).n < q.n := by
    refine cov_lt c1 hq c2 fun h => ?_
    rw [h] at c3
    exact hc c3
  have hlp := cov_lt c1 hp c3 h
  have hs := com_split hq hp hb hlt hlp
  have e1 := side_cov c1 hq c2 hlt
  have e2 := side_cov c1 hp c3 hlp
  have e3 : sideB (com q p) p.b p.xs = !sideB (com q p) q.b q.xs := by
    rw [e1, e2]
    revert hs
    cases bitP q.xs (com q p).n <;> cases bitP p.xs (com q p).n <;> simp
  unfold joint fork
  cases hd : sideB (com q p) q.b q.xs
  · rw [hd] at e3
    rw [if_neg (by decide), fp, if_pos ⟨h, c3⟩, e3, if_pos (by decide), sub]
    exact ⟨rfl, rfl⟩
  · rw [hd] at e3
    rw [if_pos rfl, fp, if_pos ⟨h, c3⟩, e3, if_neg (by decide), sub]
    exact ⟨rfl, rfl⟩
theorem set_self {cs : Array Value} {i : Nat} {u : Value} (h : cs[i]? = some u) : cs.setIfInBounds i u = cs := by
  apply Array.ext_getElem?
  intro j
  rw [Array.getElem?_setIfInBounds]
  split
  · rename_i he; subst he; rw [h]; simp [(Array.getElem?_eq_some_iff.1 h).1]
  · rfl
theorem cell_heap {w : World} {b o : Nat} {cs : Array Value} {T : TypeId} {f : Nat × Nat} {u : Value} (h : w.heap[b]? = some (.cells cs T f)) (hc : w.cell? ⟨b, o, none⟩ = some u) : cs[o]? = some u := by
  simpa [World.cell?, h] using hc
end Go.Proofs.Ytnbohhiooigmbaa
namespace Go.Proofs.Ytnbohhiooigmbaa
open Go.ChangeShapes Go.WideShapes Go.ChangeAt Go.RowKit
set_option linter.unusedVariables false

theorem putL_len {p : Px} {x : Value} : ∀ {L : List (Px × Value)}, Srt L → (putL p x L).length = if (valL L p).isSome then L.length else L.length + 1
  | [], _ => rfl
  | e :: L, hs => by
    obtain ⟨he, hL⟩ := List.pairwise_cons.1 hs
    have hno : (Lt p e.1 ∨ e.1 = p) → ∀ x ∈ L, x.1 ≠ p := fun hp x hx hc => by
      have h1 := he x hx
      rw [hc] at h1
      rcases hp with hp | hp
      · exact lt_asymm h1 hp
      · rw [hp] at h1; exact lt_irr _ h1
    rw [putL]
    by_cases h1 : cmpX e.1 p = -1
    · rw [if_pos h1, List.length_cons, putL_len hL]
      have hne : e.1 ≠ p := fun hc => by rw [hc] at h1; exact lt_irr _ h1
      have hv : valL (e :: L) p = valL L p := by unfold valL; rw [List.find?_cons, decide_eq_false hne]
      rw [hv]
      split <;> rfl
    · rw [if_neg h1]
      by_cases h2 : e.1 = p
      · rw [if_pos h2]
        have hv : valL (e :: L) p = some e.2 := by unfold valL; rw [List.find?_cons, decide_eq_true h2]; rfl
        rw [hv]; rfl
      · rw [if_neg h2]
        have hlt : Lt p e.1 := by
          rcases cmpX_cases e.1 p with h | h | h
          · exact absurd h h1
          · exact absurd h h2
          · exact h.1
        have hv : valL (e :: L) p = none := valL_none.2 fun x hx => by
          rcases List.mem_cons.1 hx with h | h
          · rw [h]; exact h2
          · exact hno (.inl hlt) x h
        rw [hv]; rfl
/-- The tree of a family, and the other. -/
def mine (p : Px) (t4 t6 : Tr) : Tr := if p.b = true then t6 else t4
def other (p : Px) (t4 t6 : Tr) : Tr := if p.b = true then t4 else t6
theorem Tri.mine_wf {N V T : TypeId} {w : World} {a : Nat} {t4 t6 : Tr} (h : Tri N V T w a t4 t6) (p : Px) : Wf (mine p t4 t6) ∧ (∀ q ∈ (mine p t4 t6).all, q.b = p.b) ∧ (blk (mine p t4 t6)).Nodup ∧ a ∉ blk (mine p t4 t6) ∧ In N V w (mine p t4 t6) := by
  have hnd := h.nd
  rw [List.nodup_cons, List.nodup_append] at hnd
  obtain ⟨h1, h2, h3, h4⟩ := hnd
  unfold mine
  cases hp : p.b with
  | true => rw [if_pos rfl]; exact ⟨h.w6, h.f6, h3, fun hc => h1 (List.mem_append.2 (.inr hc)), h.i6⟩
  | false => rw [if_neg (by decide)]; exact ⟨h.w4, h.f4, h2, fun hc => h1 (List.mem_append.2 (.inl hc)), h.i4⟩
/-- What is found is the value of the key. -/
theorem get_val {N V T : TypeId} {w : World} {a : Nat} {t4 t6 : Tr} (h : Tri N V T w a t4 t6) (p : Px) : (getT (mine p t4 t6) p).map (·.2) = valL (t4.toL ++ t6.toL) p := by
  have hs := both_srt h.w4 h.w6 h.f4 h.f6
  obtain ⟨m1, m2, -⟩ := h.mine_wf p
  have hin : ∀ x, (p, x) ∈ t4.toL ++ t6.toL ↔ (p, x) ∈ (mine p t4 t6).toL := fun x => by
    rw [List.mem_append]
    unfold mine
    cases hp : p.b with
    | true =>
      rw [if_pos rfl]
      exact ⟨fun hc => by
        rcases hc with hc | hc
        · have := h.f4 _ (toL_all hc); rw [hp] at this; cases this
        · exact hc, .inr⟩
    | false =>
      rw [if_neg (by decide)]
      exact ⟨fun hc => by
        rcases hc with hc | hc
        · exact hc
        · have := h.f6 _ (toL_all hc); rw [hp] at this; exact Bool.noConfusion this, .inl⟩
  by_cases hp : okP p
  · cases hg : getT (mine p t4 t6) p with
    | none =>
      symm
      refine valL_none.2 fun e he hc => ?_
      have h1 : (p, e.2) ∈ t4.toL ++ t6.toL := by rw [← hc]; exact he
      obtain ⟨vb, h2⟩ := (get_mem hp m1).1 ((hin _).1 h1)
      rw [hg] at h2; cases h2
    | some u =>
      obtain ⟨vb, x⟩ := u
      symm
      exact (valL_iff hs).2 ((hin x).2 ((get_mem hp m1).2 ⟨vb, hg⟩))
  · have hno : ∀ e ∈ t4.toL ++ t6.toL, e.1 ≠ p := fun e he hc => by
      rcases List.mem_append.1 he with h1 | h1
      · exact hp (hc ▸ h.w4.ok _ (toL_all h1))
      · exact hp (hc ▸ h.w6.ok _ (toL_all h1))
    rw [valL_none.2 hno]
    have hgn : getT (mine p t4 t6) p = none := by
      unfold getT
      have hall : ∀ (t : Tr) (ds : List Bool), Wf t → Wf (sub t ds) := by
        intro t
        induction t with
        | nil => intro ds h; cases ds <;> exact h
        | node g q v l r ihl ihr =>
          intro ds h
          cases ds with
          | nil => exact h
          | cons d ds =>
            rw [sub]
            split
            · exact ihr ds h.2.2.2.2
            · exact ihl ds h.2.2.2.1
      have hw := hall (mine p t4 t6) (fp (mine p t4 t6) p) m1
      cases hs : sub (mine p t4 t6) (fp (mine p t4 t6) p) with
      | nil => rfl
      | node g q v l r =>
        rw [hs] at hw
        have hne : q ≠ p := fun hc => hp (by rw [← hc]; exact hw.1)
        exact if_neg hne
    rw [hgn]; rfl
theorem tri_ins {N V T : TypeId} {w w5 : World} {a : Nat} {t4 t6 : Tr} (hT : Tri N V T w a t4 t6) {p : Px} (hp : okP p) {v : Nat × Value} {g1 g2 : Nat} (d1 : v.1 ≠ g1) (d2 : v.1 ≠ g2) (d3 : g1 ≠ g2) (f1 : w.heap.size ≤ v.1) (f2 : w.heap.size ≤ g1) (f3 : w.heap.size ≤ g2)
    (hin : In N V w5 (ins p v g1 g2 (mine p t4 t6))) (ho : In N V w5 (other p t4 t6))
    (hh : w5.heap[a]? = some (.cells #[rt (if p.b = true then t4 else ins p v g1 g2 t4), rt (if p.b = true then ins p v g1 g2 t6 else t6), .int .i64 ((putL p v.2 (t4.toL ++ t6.toL)).length : Nat)] T (0, 0))) :
    Tri N V T w5 a (if p.b = true then t4 else ins p v g1 g2 t4) (if p.b = true then ins p v g1 g2 t6 else t6) ∧ (if p.b = true then t4 else ins p v g1 g2 t4).toL ++ (if p.b = true then ins p v g1 g2 t6 else t6).toL = putL p v.2 (t4.toL ++ t6.toL) ∧ ∀ k, own a (if p.b = true then t4 else ins p v g1 g2 t4) (if p.b = true then ins p v g1 g2 t6 else t6) k → own a t4 t6 k ∨ w.heap.size ≤ k := by
  have hs := both_srt hT.w4 hT.w6 hT.f4 hT.f6
  have hlt := fun {k} (hk : own a t4 t6 k) => hT.lt hk
  have hnd := hT.nd
  rw [List.nodup_cons, List.nodup_append] at hnd
  obtain ⟨n1, n2, n3, n4⟩ := hnd
  unfold mine at hin
  unfold other at ho
  cases hb : p.b with
  | true =>
    rw [hb] at hin ho hh
    simp only [if_true] at hin ho hh ⊢
    have hbt : ∀ q ∈ t6.all, q.b = p.b := fun q hq => (hT.f6 q hq).trans hb.symm
    have hfam := ins_fam (p := p) (v := v) (g1 := g1) (g2 := g2) hbt
    have hwf := ins_wf (v := v) (g1 := g1) (g2 := g2) hp hT.w6 hbt
    have hls : t4.toL ++ (ins p v g1 g2 t6).toL = putL p v.2 (t4.toL ++ t6.toL) := by
      refine srt_ext (both_srt hT.w4 hwf hT.f4 fun q hq => (hfam q hq).trans hb) (putL_srt hs) fun e => ?_
      rw [putL_mem hs, List.mem_append, List.mem_append, ins_mem hp hT.w6 hbt]
      constructor
      · rintro (h | h | ⟨h1, h2⟩)
        · refine .inr ⟨fun hc => ?_, .inl h⟩
          have := hT.f4 _ (toL_all h); rw [hc, hb] at this; cases this
        · exact .inl h
        · exact .inr ⟨h1, .inr h2⟩
      · rintro (h | ⟨h1, h | h⟩)
        · exact .inr (.inl h)
        · exact .inl h
        · exact .inr (.inr ⟨h1, h⟩)
    refine ⟨⟨by rw [hls]; exact hh, ho, hin, ?_, hT.w4, hwf, hT.f4, fun q hq => (hfam q hq).trans hb⟩, hls, fun k hk => ?_⟩
    · refine List.nodup_cons.2 ⟨fun hc => ?_, List.nodup_append.2 ⟨n2, ins_nodup d1 d2 d3 n3 (fun hc => by have := hlt (.inr (.inr hc)); omega) (fun hc => by have := hlt (.inr (.inr hc)); omega) (fun hc => by have := hlt (.inr (.inr hc)); omega), fun x hx y hy hxy => ?_⟩⟩
      · rcases List.mem_append.1 hc with hc | hc
        · exact n1 (List.mem_append.2 (.inl hc))
        · have ha := hlt (k := a) (.inl rfl)
          rcases ins_blk hc with h | h | h | h
          · exact n1 (List.mem_append.2 (.inr h))
          · omega
          · omega
          · omega
      · subst hxy
        have hx' := hlt (k := x) (.inr (.inl hx))
        rcases ins_blk hy with h | h | h | h
        · exact n4 x hx x h rfl
        · omega
        · omega
        · omega
    · rcases hk with h | h | h
      · exact .inl (.inl h)
      · exact .inl (.inr (.inl h))
      · rcases ins_blk h with h | h | h | h
        · exact .inl (.inr (.inr h))
        · exact .inr (by omega)
        · exact .inr (by omega)
        · exact .inr (by omega)
  | false =>
    rw [hb] at hin ho hh
    simp only [Bool.false_eq_true, if_false] at hin ho hh ⊢
    have hbt : ∀ q ∈ t4.all, q.b = p.b := fun q hq => (hT.f4 q hq).trans hb.symm
    have hfam := ins_fam (p := p) (v := v) (g1 := g1) (g2 := g2) hbt
    have hwf := ins_wf (v := v) (g1 := g1) (g2 := g2) hp hT.w4 hbt
    have hls : (ins p v g1 g2 t4).toL ++ t6.toL = putL p v.2 (t4.toL ++ t6.toL) := by
      refine srt_ext (both_srt hwf hT.w6 (fun q hq => (hfam q hq).trans hb) hT.f6) (putL_srt hs) fun e => ?_
      rw [putL_mem hs, List.mem_append, List.mem_append, ins_mem hp hT.w4 hbt]
      constructor
      · rintro ((h | ⟨h1, h2⟩) | h)
        · exact .inl h
        · exact .inr ⟨h1, .inl h2⟩
        · refine .inr ⟨fun hc => ?_, .inr h⟩
          have := hT.f6 _ (toL_all h); rw [hc, hb] at this; cases this
      · rintro (h | ⟨h1, h | h⟩)
        · exact .inl (.inl h)
        · exact .inl (.inr ⟨h1, h⟩)
        · exact .inr h
    refine ⟨⟨by rw [hls]; exact hh, hin, ho, ?_, hwf, hT.w6, fun q hq => (hfam q hq).trans hb, hT.f6⟩, hls, fun k hk => ?_⟩
    · refine List.nodup_cons.2 ⟨fun hc => ?_, List.nodup_append.2 ⟨ins_nodup d1 d2 d3 n2 (fun hc => by have := hlt (.inr (.inl hc)); omega) (fun hc => by have := hlt (.inr (.inl hc)); omega) (fun hc => by have := hlt (.inr (.inl hc)); omega), n3, fun x hx y hy hxy => ?_⟩⟩
      · rcases List.mem_append.1 hc with hc | hc
        · have ha := hlt (k := a) (.inl rfl)
          rcases ins_blk hc with h | h | h | h
          · exact n1 (List.mem_append.2 (.inl h))
          · omega
          · omega
          · omega
        · exact n1 (List.mem_append.2 (.inr hc))
      · subst hxy
        have hx' := hlt (k := x) (.inr (.inr hy))
        rcases ins_blk hx with h | h | h | h
        · exact n4 x h x hy rfl
        · omega
        · omega
        · omega
    · rcases hk with h | h | h
      · exact .inl (.inl h)
      · rcases ins_blk h with h | h | h | h
        · exact .inl (.inr (.inl h))
        · exact .inr (by omega)
        · exact .inr (by omega)
        · exact .inr (by omega)
      · exact .inl (.inr (.inr h))
/-- Where the place lies. -/
theorem place {N V T : TypeId} {w : World} {a : Nat} {t4 t6 : Tr} (hT : Tri N V T w a t4 t6) {p : Px} {ao sb so : Nat} {ds : List Bool} (ho : okW (mine p t4 t6) ds) (hsl : slotOf ⟨a, ao, none⟩ (mine p t4 t6) ds = ⟨sb, so, none⟩) : own a t4 t6 sb ∧ sb ∉ blk (other p t4 t6) ∧ (ds = [] → sb = a ∧ so = ao) ∧ (ds ≠ [] → sb ≠ a) := by
  have hnd := hT.nd
  rw [List.nodup_cons, List.nodup_append] at hnd
  obtain ⟨n1, n2, n3, n4⟩ := hnd
  by_cases he : ds = []
  · subst he
    rw [slotOf] at hsl
    cases hsl
    refine ⟨.inl rfl, fun hc => ?_, fun _ => ⟨rfl, rfl⟩, fun h => absurd rfl h⟩
    unfold other at hc
    split at hc
    · exact n1 (List.mem_append.2 (.inl hc))
    · exact n1 (List.mem_append.2 (.inr hc))
  · obtain ⟨h1, -⟩ := slot_block (A := ⟨a, ao, none⟩) he ho
    rw [hsl] at h1
    unfold mine at h1
    refine ⟨?_, fun hc => ?_, fun h => absurd h he, fun _ hc => ?_⟩
    · split at h1
      · exact .inr (.inr h1)
      · exact .inr (.inl h1)
    · unfold other at hc
      split at h1
      · rename_i hb; rw [if_pos hb] at hc; exact n4 sb hc sb h1 rfl
      · rename_i hb; rw [if_neg hb] at hc; exact n4 sb h1 sb hc rfl
    · have h2 : sb ∈ blk (mine p t4 t6) := h1
      rw [hc] at h2
      exact (hT.mine_wf p).2.2.2.1 h2
theorem prov_head {N V T : TypeId} {w w' : World} {a : Nat} {t4 t6 : Tr} (hT : Tri N V T w a t4 t6) {p : Px} {v : Nat × Value} {g1 g2 ao sb so : Nat} (hao : (if p.b = true then 1 else 0 : Nat) = ao) (hsl : slotOf ⟨a, ao, none⟩ (mine p t4 t6) (fp (mine p t4 t6) p) = ⟨sb, so, none⟩) (hF : Fr (fun k => k = sb) w w')
    (hslot : ∀ cs T, w.heap[sb]? = some (.cells cs T (0, 0)) → w'.heap[sb]? = some (.cells (cs.setIfInBounds so (rt (top p v g1 g2 (sub (mine p t4 t6) (fp (mine p t4 t6) p))))) T (0, 0))) :
    w'.heap[a]? = some (.cells #[rt (if p.b = true then t4 else ins p v g1 g2 t4), rt (if p.b = true then ins p v g1 g2 t6 else t6), .int .i64 ((t4.toL ++ t6.toL).length : Nat)] T (0, 0)) := by
  obtain ⟨-, -, h1, h2⟩ := place hT (fp_ok _ p) hsl
  by_cases he : fp (mine p t4 t6) p = []
  · obtain ⟨rfl, rfl⟩ := h1 he
    have h3 := hslot _ _ hT.head
    rw [← ins_rt_nil he] at h3
    rw [h3, ← hao]
    unfold mine
    cases hb : p.b with
    | true => simp
    | false => simp
  · rw [hF.block a (some_lt hT.head) (fun hc => h2 he hc.symm), hT.head]
    have h3 := ins_rt (a := a) (ao := ao) (v := v) (g1 := g1) (g2 := g2) he
    unfold mine at h3
    cases hb : p.b with
    | true => rw [hb] at h3; simp only [if_true] at h3 ⊢; rw [h3]
    | false => rw [hb] at h3; simp only [Bool.false_eq_true, if_false] at h3 ⊢; rw [h3]
theorem own_mine {a : Nat} {p : Px} {t4 t6 : Tr} {k : Nat} (h : k ∈ blk (mine p t4 t6)) : own a t4 t6 k := by
  unfold mine at h
  split at h
  · exact .inr (.inr h)
  · exact .inr (.inl h)
theorem mine_other {N V T : TypeId} {w : World} {a : Nat} {t4 t6 : Tr} (hT : Tri N V T w a t4 t6) {p : Px} {k : Nat} (h : k ∈ blk (mine p t4 t6)) : k ∉ blk (other p t4 t6) ∧ k ≠ a := by
  have hnd := hT.nd
  rw [List.nodup_cons, List.nodup_append] at hnd
  obtain ⟨n1, n2, n3, n4⟩ := hnd
  refine ⟨fun hc => ?_, fun hc => (hT.mine_wf p).2.2.2.1 (hc ▸ h)⟩
  unfold mine at h
  unfold other at hc
  split at h
  · rename_i hb; rw [if_pos hb] at hc; exact n4 k hc k h rfl
  · rename_i hb; rw [if_neg hb] at hc; exact n4 k h k hc rfl
theorem other_in {N V T : TypeId} {w : World} {a : Nat} {t4 t6 : Tr} (hT : Tri N V T w a t4 t6) (p : Px) : In N V w (other p t4 t6) ∧ a ∉ blk (other p t4 t6) := by
  have hnd := hT.nd
  rw [List.nodup_cons, List.nodup_append] at hnd
  obtain ⟨n1, n2, n3, n4⟩ := hnd
  unfold other
  split
  · exact ⟨hT.i4, fun hc => n1 (List.mem_append.2 (.inl hc))⟩
  · exact ⟨hT.i6, fun hc => n1 (List.mem_append.2 (.inr hc))⟩
theorem del_len {p : Px} : ∀ {L : List (Px × Value)}, Srt L → (valL L p).isSome = true → (del p L).length + 1 = L.length
  | [], _, h => by cases h
  | e :: L, hs, h => by
    obtain ⟨he, hL⟩ := List.pairwise_cons.1 hs
    unfold del
    rw [List.filter_cons]
    by_cases h1 : e.1 = p
    · rw [decide_eq_true h1]
      have hno : del p L = L := del_none fun x hx hc => by
        have h2 := he x hx
        rw [h1, hc] at h2
        exact lt_irr _ h2
      unfold del at hno
      rw [hno]
      rfl
    · rw [decide_eq_false h1]
      have hv : valL (e :: L) p = valL L p := by unfold valL; rw [List.find?_cons, decide_eq_false h1]
      rw [hv] at h
      have ih := del_len hL h
      unfold del at ih
      simp only [Bool.not_false, if_true, List.length_cons]
      omega
theorem tri_del {N V T : TypeId} {w w5 : World} {a : Nat} {t4 t6 : Tr} (hT : Tri N V T w a t4 t6) {p : Px} (hp : okP p) (hm : p ∈ (mine p t4 t6).all)
    (hin : In N V w5 (wo p (mine p t4 t6))) (ho : In N V w5 (other p t4 t6))
    (hh : w5.heap[a]? = some (.cells #[rt (if p.b = true then t4 else wo p t4), rt (if p.b = true then wo p t6 else t6), .int .i64 ((del p (t4.toL ++ t6.toL)).length : Nat)] T (0, 0))) :
    Tri N V T w5 a (if p.b = true then t4 else wo p t4) (if p.b = true then wo p t6 else t6) ∧ (if p.b = true then t4 else wo p t4).toL ++ (if p.b = true then wo p t6 else t6).toL = del p (t4.toL ++ t6.toL) ∧ ∀ k, own a (if p.b = true then t4 else wo p t4) (if p.b = true then wo p t6 else t6) k → own a t4 t6 k := by
  have hnd := hT.nd
  rw [List.nodup_cons, List.nodup_append] at hnd
  obtain ⟨n1, n2, n3, n4⟩ := hnd
  unfold mine at hin hm
  unfold other at ho
  cases hb : p.b with
  | true =>
    rw [hb] at hin ho hh hm
    simp only [if_true] at hin ho hh hm ⊢
    have hl4 : del p t4.toL = t4.toL := del_none fun e he hc => by have := hT.f4 _ (toL_all he); rw [hc, hb] at this; cases this
    have hls : t4.toL ++ (wo p t6).toL = del p (t4.toL ++ t6.toL) := by rw [del_append, hl4, wo_toL hp hT.w6 hm]
    have hsub := fun {k} (hk : k ∈ blk (wo p t6)) => (wo_sub (p := p) t6).subset hk
    refine ⟨⟨by rw [hls]; exact hh, ho, hin, ?_, hT.w4, wo_wf hT.w6, hT.f4, fun q hq => hT.f6 q (wo_all hq)⟩, hls, fun k hk => ?_⟩
    · refine List.nodup_cons.2 ⟨fun hc => ?_, List.nodup_append.2 ⟨n2, n3.sublist (wo_sub t6), fun x hx y hy => n4 x hx y (hsub hy)⟩⟩
      rcases List.mem_append.1 hc with hc | hc
      · exact n1 (List.mem_append.2 (.inl hc))
      · exact n1 (List.mem_append.2 (.inr (hsub hc)))
    · rcases hk with h | h | h
      · exact .inl h
      · exact .inr (.inl h)
      · exact .inr (.inr (hsub h))
  | false =>
    rw [hb] at hin ho hh hm
    simp only [Bool.false_eq_true, if_false] at hin ho hh hm ⊢
    have hl6 : del p t6.toL = t6.toL := del_none fun e he hc => by have := hT.f6 _ (toL_all he); rw [hc, hb] at this; cases this
    have hls : (wo p t4).toL ++ t6.toL = del p (t4.toL ++ t6.toL) := by rw [del_append, hl6, wo_toL hp hT.w4 hm]
    have hsub := fun {k} (hk : k ∈ blk (wo p t4)) => (wo_sub (p := p) t4).subset hk
    refine ⟨⟨by rw [hls]; exact hh, hin, ho, ?_, wo_wf hT.w4, hT.w6, fun q hq => hT.f4 q (wo_all hq), hT.f6⟩, hls, fun k hk => ?_⟩
    · refine List.nodup_cons.2 ⟨fun hc => ?_, List.nodup_append.2 ⟨n2.sublist (wo_sub t4), n3, fun x hx y hy => n4 x (hsub hx) y hy⟩⟩
      rcases List.mem_append.1 hc with hc | hc
      · exact n1 (List.mem_append.2 (.inl (hsub hc)))
      · exact n1 (List.mem_append.2 (.inr hc))
    · rcases hk with h | h | h
      · exact .inl h
      · exact .inr (.inl (hsub h))
      · exact .inr (.inr h)
theorem get_in {p : Px} {t : Tr} {vb : Nat} {x : Value} (h : getT t p = some (vb, x)) : p ∈ t.all := by
  have hall : ∀ (t : Tr) (ds : List Bool), ∀ y ∈ (sub t ds).all, y ∈ t.all := by
    intro t
    induction t with
    | nil => intro ds y hy; cases ds <;> exact hy
    | node g q v l r ihl ihr =>
      intro ds y hy
      cases ds with
      | nil => exact hy
      | cons d ds =>
        rw [sub] at hy
        refine List.mem_cons_of_mem _ (List.mem_append.2 ?_)
        split at hy
        · exact .inr (ihr ds y hy)
        · exact .inl (ihl ds y hy)
  unfold getT at h
  cases hs : sub t (fp t p) with
  | nil => rw [hs] at h; cases h
  | node g q v l r =>
    rw [hs] at h
    by_cases he : q = p
    · refine hall t (fp t p) p ?_
      rw [hs, ← he]
      exact List.mem_cons_self
    · rw [show getN p (.node g q v l r) = none from if_neg he] at h
      cases h
end Go.Proofs.Ytnbohhiooigmbaa
namespace Go.Proofs.Ytnbohhiooigmbaa
open Go.ChangeShapes Go.WideShapes Go.ChangeAt Go.RowKit
set_option linter.unusedVariables false

/-- What an address is in, of a list. -/
def inL (L : List (Px × Value)) (c : Bool) (ys : List Nat) : List (Px × Value) := L.filter fun e => has e.1 c ys
theorem pth_inL {N V T : TypeId} {w : World} {a : Nat} {t4 t6 : Tr} (hT : Tri N V T w a t4 t6) {c : Bool} {ys : List Nat} (hy : Bytes ys) : (pth c ys (if c = true then t6 else t4)).map keyOf = inL (t4.toL ++ t6.toL) c ys := by
  have hno : ∀ {t : Tr} {b : Bool}, (∀ q ∈ t.all, q.b = b) → b ≠ c → t.toL.filter (fun e => has e.1 c ys) = [] := fun hb hne => List.filter_eq_nil_iff.2 fun e he hc => hne ((hb _ (toL_all he)).symm.trans (has_iff.1 hc).2.2.1)
  unfold inL
  rw [List.filter_append]
  cases c with
  | true => rw [if_pos rfl, pth_toL hy hT.w6, hno hT.f4 (by decide), List.nil_append]
  | false => rw [if_neg (by decide), pth_toL hy hT.w4, hno hT.f6 (by decide), List.append_nil]
def endP (L : List (Px × Value)) : List Value := match L.getLast? with
  | none => pfx false zeros 0
  | some e => pfx e.1.b e.1.xs e.1.n
def endV (z : Value) (L : List (Px × Value)) : Value := match L.getLast? with
  | none => z
  | some e => e.2
theorem lastP_endP (D : List (Nat × Px × Nat × Value)) : lastP D = endP (D.map keyOf) := by
  unfold lastP endP
  rw [List.getLast?_map]
  cases D.getLast? <;> rfl
theorem lastV_endV (z : Value) (D : List (Nat × Px × Nat × Value)) : lastV z D = endV z (D.map keyOf) := by
  unfold lastV endV
  rw [List.getLast?_map]
  cases D.getLast? <;> rfl
/-- A trie that holds a list, its blocks outside X. -/
def St (N V T : TypeId) (w : World) (a : Nat) (L : List (Px × Value)) (X : Nat → Prop) : Prop := ∃ t4 t6, Tri N V T w a t4 t6 ∧ t4.toL ++ t6.toL = L ∧ ∀ k, own a t4 t6 k → ¬ X k
theorem St.no {N V T : TypeId} {w w' : World} {a : Nat} {L : List (Px × Value)} {X : Nat → Prop} (h : St N V T w a L X) (hf : Fr No w w') : St N V T w' a L X := by
  obtain ⟨t4, t6, h1, h2, h3⟩ := h
  exact ⟨t4, t6, h1.no hf, h2, h3⟩
/-- What lies in X may change. -/
theorem St.fr {N V T : TypeId} {w w' : World} {a : Nat} {L : List (Px × Value)} {X S : Nat → Prop} (h : St N V T w a L X) (hf : Fr S w w') (hS : ∀ k, S k → X k) : St N V T w' a L X := by
  obtain ⟨t4, t6, h1, h2, h3⟩ := h
  exact ⟨t4, t6, h1.fr hf fun k hk hs => h3 k hk (hS k hs), h2, h3⟩
/-- New blocks may join X. -/
theorem St.add {N V T : TypeId} {w : World} {a : Nat} {L : List (Px × Value)} {X Y : Nat → Prop} (h : St N V T w a L X) (hY : ∀ k, Y k → X k ∨ w.heap.size ≤ k) : St N V T w a L Y := by
  obtain ⟨t4, t6, h1, h2, h3⟩ := h
  refine ⟨t4, t6, h1, h2, fun k hk hy => ?_⟩
  rcases hY k hy with h | h
  · exact h3 k hk h
  · have := h1.lt hk; omega
theorem St.srt {N V T : TypeId} {w : World} {a : Nat} {L : List (Px × Value)} {X : Nat → Prop} (h : St N V T w a L X) : Srt L ∧ ∀ e ∈ L, okP e.1 := by
  obtain ⟨t4, t6, h1, rfl, -⟩ := h
  refine ⟨both_srt h1.w4 h1.w6 h1.f4 h1.f6, fun e he => ?_⟩
  rcases List.mem_append.1 he with he | he
  · exact h1.w4.ok _ (toL_all he)
  · exact h1.w6.ok _ (toL_all he)
end Go.Proofs.Ytnbohhiooigmbaa
