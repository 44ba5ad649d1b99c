/-
  Tries as trees: what is found, what is in the tree after a put or a removal, the way of an address; no walk.
  Conditions: none but that bytes are bytes.
-/
import Derived.Test.YtnbohhiooigmbaaTq
namespace Go.Proofs.Ytnbohhiooigmbaa
open Go.ChangeShapes Go.WideShapes Go.ChangeAt Go.RowKit
set_option linter.unusedVariables false

/-- What lies at a node for p. -/
def getN (p : Px) : Tr → Option (Nat × Value)
  | .nil => none
  | .node _ q v _ _ => if q = p then v else none
def getT (t : Tr) (p : Px) : Option (Nat × Value) := getN p (sub t (fp t p))
theorem under_no {q p : Px} {d : Bool} {t : Tr} (h : Under q d t) (hp : p ∈ t.all) : q ≠ p := by
  intro he
  have := (h p hp).2.1
  rw [he] at this
  omega
theorem key_l {p : Px} {d : Bool} {q : Px} {t : Tr} (h : Under q d t) {x : Value} (hm : (p, x) ∈ t.toL) : q ≠ p ∧ cov q p = true ∧ bitP p.xs q.n = d :=
  ⟨under_no h (toL_all hm), (h p (toL_all hm)).1, (h p (toL_all hm)).2.2⟩
theorem mem_node {g : Nat} {q : Px} {v : Option (Nat × Value)} {l r : Tr} {e : Px × Value} : e ∈ (Tr.node g q v l r).toL ↔ e ∈ ent q v ∨ e ∈ l.toL ∨ e ∈ r.toL := by
  rw [Tr.toL, List.mem_append, List.mem_append]
theorem ent_mem {q : Px} {v : Option (Nat × Value)} {p : Px} {x : Value} : (p, x) ∈ ent q v ↔ p = q ∧ ∃ vb, v = some (vb, x) := by
  cases v with
  | none => simp [ent]
  | some u =>
    obtain ⟨vb, y⟩ := u
    simp only [ent, List.mem_singleton, Prod.mk.injEq, Option.some.injEq]
    constructor
    · rintro ⟨rfl, rfl⟩; exact ⟨rfl, vb, rfl, rfl⟩
    · rintro ⟨rfl, vb', rfl, rfl⟩; exact ⟨rfl, rfl⟩
/-- What is found is what is in the tree. -/
theorem get_mem {p : Px} (hp : okP p) {x : Value} : ∀ {t : Tr}, Wf t → ((p, x) ∈ t.toL ↔ ∃ vb, getT t p = some (vb, x))
  | .nil, _ => ⟨fun h => (by cases h), fun ⟨vb, h⟩ => (by cases h)⟩
  | .node g q v l r, hw => by
    rw [mem_node, ent_mem, getT, fp]
    by_cases h : q ≠ p ∧ cov q p = true
    · rw [if_pos h]
      have hlt := cov_lt hw.1 hp h.2 h.1
      rw [side_cov hw.1 hp h.2 hlt]
      have hne : ¬ (p = q ∧ ∃ vb, v = some (vb, x)) := fun hc => h.1 hc.1.symm
      cases hbit : bitP p.xs q.n with
      | true =>
        rw [if_pos rfl, sub, if_pos rfl]
        have ih := get_mem hp (x := x) hw.2.2.2.2
        rw [getT] at ih
        rw [← ih]
        exact ⟨fun hm => by
          rcases hm with hm | hm | hm
          · exact absurd hm hne
          · have := (key_l hw.2.1 hm).2.2; rw [hbit] at this; cases this
          · exact hm, fun hm => .inr (.inr hm)⟩
      | false =>
        rw [if_neg (by decide), sub, if_neg (by decide)]
        have ih := get_mem hp (x := x) hw.2.2.2.1
        rw [getT] at ih
        rw [← ih]
        exact ⟨fun hm => by
          rcases hm with hm | hm | hm
          · exact absurd hm hne
          · exact hm
          · have := (key_l hw.2.2.1 hm).2.2; rw [hbit] at this; exact Bool.noConfusion this, fun hm => .inr (.inl hm)⟩
    · rw [if_neg h, sub, getN]
      have hno : ∀ {d : Bool} {t : Tr}, Under q d t → (p, x) ∈ t.toL → False := fun hu hm => h ⟨(key_l hu hm).1, (key_l hu hm).2.1⟩
      by_cases he : q = p
      · rw [if_pos he]
        exact ⟨fun hm => by
          rcases hm with hm | hm | hm
          · exact hm.2
          · exact (hno hw.2.1 hm).elim
          · exact (hno hw.2.2.1 hm).elim, fun hm => .inl ⟨he.symm, hm⟩⟩
      · rw [if_neg he]
        exact ⟨fun hm => by
          rcases hm with hm | hm | hm
          · exact absurd hm.1.symm he
          · exact (hno hw.2.1 hm).elim
          · exact (hno hw.2.2.1 hm).elim, fun ⟨vb, hm⟩ => by cases hm⟩
theorem fork_mem {g : Nat} {q : Px} {v : Option (Nat × Value)} {d : Bool} {s u : Tr} {e : Px × Value} : e ∈ (fork g q v d s u).toL ↔ e ∈ ent q v ∨ e ∈ s.toL ∨ e ∈ u.toL := by
  unfold fork
  cases d
  · rw [if_neg (by decide), mem_node]
  · rw [if_pos rfl, mem_node, or_comm (a := e ∈ u.toL)]
theorem one_mem {p : Px} {v : Nat × Value} {e : Px × Value} : e ∈ ent p (some v) ↔ e = (p, v.2) := by
  obtain ⟨vb, x⟩ := v
  rw [ent, List.mem_singleton]
/-- What is in the tree once p is put in. -/
theorem ins_mem {p : Px} {v : Nat × Value} {g1 g2 : Nat} (hp : okP p) : ∀ {t : Tr} {e : Px × Value}, Wf t → (∀ q ∈ t.all, q.b = p.b) → (e ∈ (ins p v g1 g2 t).toL ↔ e = (p, v.2) ∨ (e.1 ≠ p ∧ e ∈ t.toL))
  | .nil, e, _, _ => by
    rw [ins, mem_node, one_mem]
    constructor
    · rintro (h | h | h)
      · exact .inl h
      · cases h
      · cases h
    · rintro (h | ⟨_, h⟩)
      · exact .inl h
      · cases h
  | .node g q u l r, e, hw, hb => by
    have hnl : ∀ {d : Bool} {t : Tr}, Under q d t → e ∈ t.toL → e.1 ≠ q := fun hu hm he => under_no hu (toL_all hm) he.symm
    unfold ins
    by_cases h : q ≠ p ∧ cov q p = true
    · rw [if_pos h]
      have hlt := cov_lt hw.1 hp h.2 h.1
      rw [side_cov hw.1 hp h.2 hlt]
      cases hbit : bitP p.xs q.n with
      | true =>
        rw [if_pos rfl, mem_node, mem_node, ins_mem hp hw.2.2.2.2 fun q' hq' => hb q' (List.mem_cons.2 (.inr (List.mem_append.2 (.inr hq'))))]
        constructor
        · rintro (h1 | h1 | h1 | h1)
          · exact .inr ⟨by rw [ent_key h1]; exact h.1, .inl h1⟩
          · exact .inr ⟨fun he => by have := (hw.2.1 _ (toL_all h1)).2.2; rw [he, hbit] at this; exact Bool.noConfusion this, .inr (.inl h1)⟩
          · exact .inl h1
          · exact .inr ⟨h1.1, .inr (.inr h1.2)⟩
        · rintro (h1 | ⟨h0, h1 | h1 | h1⟩)
          · exact .inr (.inr (.inl h1))
          · exact .inl h1
          · exact .inr (.inl h1)
          · exact .inr (.inr (.inr ⟨h0, h1⟩))
      | false =>
        rw [if_neg (by decide), mem_node, mem_node, ins_mem hp hw.2.2.2.1 fun q' hq' => hb q' (List.mem_cons.2 (.inr (List.mem_append.2 (.inl hq'))))]
        constructor
        · rintro (h1 | (h1 | h1) | h1)
          · exact .inr ⟨by rw [ent_key h1]; exact h.1, .inl h1⟩
          · exact .inl h1
          · exact .inr ⟨h1.1, .inr (.inl h1.2)⟩
          · exact .inr ⟨fun he => by have := (hw.2.2.1 _ (toL_all h1)).2.2; rw [he, hbit] at this; exact Bool.noConfusion this, .inr (.inr h1)⟩
        · rintro (h1 | ⟨h0, h1 | h1 | h1⟩)
          · exact .inr (.inl (.inl h1))
          · exact .inl h1
          · exact .inr (.inl (.inr ⟨h0, h1⟩))
          · exact .inr (.inr h1)
    · rw [if_neg h]
      have hqp : q.b = p.b := hb q List.mem_cons_self
      rw [top]
      by_cases h1 : q = p
      · rw [if_pos h1, mem_node, mem_node, one_mem]
        subst h1
        constructor
        · rintro (h2 | h2 | h2)
          · exact .inl h2
          · exact .inr ⟨hnl hw.2.1 h2, .inr (.inl h2)⟩
          · exact .inr ⟨hnl hw.2.2.1 h2, .inr (.inr h2)⟩
        · rintro (h2 | ⟨h0, h2 | h2 | h2⟩)
          · exact .inl h2
          · exact absurd (ent_key h2) h0
          · exact .inr (.inl h2)
          · exact .inr (.inr h2)
      · rw [if_neg h1]
        have hnp : e ∈ (Tr.node g q u l r).toL → e.1 ≠ p := by
          intro hm he
          rcases mem_node.1 hm with h2 | h2 | h2
          · exact h1 ((ent_key h2).symm.trans he)
          · exact h ⟨h1, by have := (hw.2.1 _ (toL_all h2)).1; rw [he] at this; exact this⟩
          · exact h ⟨h1, by have := (hw.2.2.1 _ (toL_all h2)).1; rw [he] at this; exact this⟩
        by_cases h2 : com q p = p
        · rw [if_pos h2, fork_mem, one_mem]
          constructor
          · rintro (h3 | h3 | h3)
            · exact .inl h3
            · exact .inr ⟨hnp h3, h3⟩
            · cases h3
          · rintro (h3 | ⟨_, h3⟩)
            · exact .inl h3
            · exact .inr (.inl h3)
        · rw [if_neg h2, fork_mem, mem_node (q := p), one_mem]
          constructor
          · rintro (h3 | h3 | h3 | h3 | h3)
            · cases h3
            · exact .inr ⟨hnp h3, h3⟩
            · exact .inl h3
            · cases h3
            · cases h3
          · rintro (h3 | ⟨_, h3⟩)
            · exact .inr (.inr (.inl h3))
            · exact .inr (.inl h3)

/-- A node without what it need not be. -/
def fix (g : Nat) (q : Px) (v : Option (Nat × Value)) : Tr → Tr → Tr
  | .nil, .nil => if v.isSome then .node g q v .nil .nil else .nil
  | .nil, .node g2 q2 v2 l2 r2 => if v.isSome then .node g q v .nil (.node g2 q2 v2 l2 r2) else .node g2 q2 v2 l2 r2
  | .node g2 q2 v2 l2 r2, .nil => if v.isSome then .node g q v (.node g2 q2 v2 l2 r2) .nil else .node g2 q2 v2 l2 r2
  | .node g2 q2 v2 l2 r2, .node g3 q3 v3 l3 r3 => .node g q v (.node g2 q2 v2 l2 r2) (.node g3 q3 v3 l3 r3)
/-- The tree without p's value. -/
def wo (p : Px) : Tr → Tr
  | .nil => .nil
  | .node g q v l r => if q = p then fix g q none l r else if sideB q p.b p.xs = true then fix g q v l (wo p r) else fix g q v (wo p l) r
theorem fix_toL (g : Nat) (q : Px) (v : Option (Nat × Value)) (l r : Tr) : (fix g q v l r).toL = ent q v ++ (l.toL ++ r.toL) := by
  cases v <;> cases l <;> cases r <;> simp [fix, Tr.toL, ent]
theorem fix_all {g : Nat} {q : Px} {v : Option (Nat × Value)} {l r : Tr} {p : Px} (h : p ∈ (fix g q v l r).all) : p = q ∨ p ∈ l.all ∨ p ∈ r.all := by
  cases v <;> cases l <;> cases r <;> simp [fix, Tr.all] at h ⊢ <;> grind
theorem fix_wf {g : Nat} {q : Px} {v : Option (Nat × Value)} {l r : Tr} (hq : okP q) (h1 : Under q false l) (h2 : Under q true r) (k1 : Wf l) (k2 : Wf r) : Wf (fix g q v l r) := by
  cases v <;> cases l <;> cases r <;> first | exact ⟨hq, h1, h2, k1, k2⟩ | exact k1 | exact k2
theorem wo_all {p : Px} : ∀ {t : Tr} {r : Px}, r ∈ (wo p t).all → r ∈ t.all
  | .nil, r, h => h
  | .node g q v l r', r, h => by
    unfold wo at h
    have hu : r = q ∨ r ∈ l.all ∨ r ∈ r'.all := by
      split at h
      · exact fix_all h
      · split at h
        · rcases fix_all h with h | h | h
          · exact .inl h
          · exact .inr (.inl h)
          · exact .inr (.inr (wo_all h))
        · rcases fix_all h with h | h | h
          · exact .inl h
          · exact .inr (.inl (wo_all h))
          · exact .inr (.inr h)
    rcases hu with h | h | h
    · exact List.mem_cons.2 (.inl h)
    · exact List.mem_cons.2 (.inr (List.mem_append.2 (.inl h)))
    · exact List.mem_cons.2 (.inr (List.mem_append.2 (.inr h)))
theorem wo_wf {p : Px} : ∀ {t : Tr}, Wf t → Wf (wo p t)
  | .nil, h => h
  | .node g q v l r, h => by
    unfold wo
    split
    · exact fix_wf h.1 h.2.1 h.2.2.1 h.2.2.2.1 h.2.2.2.2
    · split
      · exact fix_wf h.1 h.2.1 (fun x hx => h.2.2.1 x (wo_all hx)) h.2.2.2.1 (wo_wf h.2.2.2.2)
      · exact fix_wf h.1 (fun x hx => h.2.1 x (wo_all hx)) h.2.2.1 (wo_wf h.2.2.2.1) h.2.2.2.2
/-- The list without a key. -/
def del (p : Px) (L : List (Px × Value)) : List (Px × Value) := L.filter fun e => !decide (e.1 = p)
theorem del_append (p : Px) (A B : List (Px × Value)) : del p (A ++ B) = del p A ++ del p B := List.filter_append ..
theorem del_none {p : Px} {L : List (Px × Value)} (h : ∀ e ∈ L, e.1 ≠ p) : del p L = L := List.filter_eq_self.2 fun e he => by rw [decide_eq_false (h e he)]; rfl
theorem del_ent (p : Px) (v : Option (Nat × Value)) : del p (ent p v) = [] := by
  cases v with
  | none => rfl
  | some u => unfold del ent; rw [List.filter_cons]; simp
/-- What is in the tree once p, which is in it, is taken away. -/
theorem wo_toL {p : Px} (hp : okP p) : ∀ {t : Tr}, Wf t → p ∈ t.all → (wo p t).toL = del p t.toL
  | .nil, _, h => by cases h
  | .node g q v l r, hw, h => by
    have no : ∀ {d : Bool} {t : Tr}, Under q d t → ∀ e ∈ t.toL, e.1 ≠ q := fun hu e he hc => under_no hu (toL_all he) hc.symm
    unfold wo
    by_cases h1 : q = p
    · subst h1
      rw [if_pos rfl, fix_toL, Tr.toL, del_append, del_append, del_ent, del_none (no hw.2.1), del_none (no hw.2.2.1)]
      rfl
    · rw [if_neg h1]
      have hent : del p (ent q v) = ent q v := del_none fun e he => by rw [ent_key he]; exact h1
      have hm : p ∈ l.all ∨ p ∈ r.all := by
        rcases List.mem_cons.1 h with h | h
        · exact absurd h.symm h1
        · exact List.mem_append.1 h
      rcases hm with hm | hm
      · obtain ⟨c1, c2, c3⟩ := hw.2.1 p hm
        have hr : ∀ e ∈ r.toL, e.1 ≠ p := fun e he hc => by have := (hw.2.2.1 _ (toL_all he)).2.2; rw [hc, c3] at this; cases this
        rw [side_cov hw.1 hp c1 c2, c3, if_neg (by decide), fix_toL, Tr.toL, del_append, del_append, hent, del_none hr, wo_toL hp hw.2.2.2.1 hm]
      · obtain ⟨c1, c2, c3⟩ := hw.2.2.1 p hm
        have hl : ∀ e ∈ l.toL, e.1 ≠ p := fun e he hc => by have := (hw.2.1 _ (toL_all he)).2.2; rw [hc, c3] at this; cases this
        rw [side_cov hw.1 hp c1 c2, c3, if_pos rfl, fix_toL, Tr.toL, del_append, del_append, hent, del_none hl, wo_toL hp hw.2.2.2.2 hm]

/-- A node, if it has a value. -/
def entN (g : Nat) (q : Px) : Option (Nat × Value) → List (Nat × Px × Nat × Value)
  | none => []
  | some (vb, x) => [(g, q, vb, x)]
/-- The nodes with values on the way of an address. -/
def pth (c : Bool) (ys : List Nat) : Tr → List (Nat × Px × Nat × Value)
  | .nil => []
  | .node g q v l r => if has q c ys = true then entN g q v ++ (if sideB q c ys = true then pth c ys r else pth c ys l) else []
def keyOf (e : Nat × Px × Nat × Value) : Px × Value := (e.2.1, e.2.2.2)
theorem has_under {q : Px} {d : Bool} {t : Tr} {c : Bool} {ys : List Nat} (hq : okP q) (h : Under q d t) (hw : Wf t) {p : Px} (hp : p ∈ t.all) (hh : has p c ys = true) : has q c ys = true ∧ bitP ys q.n = d := by
  obtain ⟨h1, h2, h3⟩ := h p hp
  refine ⟨cov_has h1 hh, ?_⟩
  have hl := ok_le (hw.ok p hp)
  have h0 := hq.parts.2.1
  rw [← h3]
  unfold bitP
  rw [(has_iff.1 hh).2.2.2 _ (by omega) (by omega)]
theorem filter_no {t : Tr} {f : Px → Bool} (h : ∀ p ∈ t.all, f p = false) : t.toL.filter (fun e => f e.1) = [] :=
  List.filter_eq_nil_iff.2 fun e he => by rw [h _ (toL_all he)]; decide
/-- They are what is in the tree and holds the address. -/
theorem pth_toL {c : Bool} {ys : List Nat} (hy : Bytes ys) : ∀ {t : Tr}, Wf t → (pth c ys t).map keyOf = t.toL.filter fun e => has e.1 c ys
  | .nil, _ => rfl
  | .node g q v l r, hw => by
    unfold pth
    rw [Tr.toL, List.filter_append, List.filter_append]
    by_cases h : has q c ys = true
    · rw [if_pos h, List.map_append]
      have e1 : (entN g q v).map keyOf = (ent q v).filter fun e => has e.1 c ys := by
        cases v with
        | none => rfl
        | some u => obtain ⟨vb, x⟩ := u; simp [ent, entN, keyOf, h]
      rw [e1]
      congr 1
      have hfl : ∀ {d : Bool} {t : Tr}, Under q d t → Wf t → sideB q c ys = !d → t.toL.filter (fun e => has e.1 c ys) = [] := by
        intro d t hu ht hs
        refine filter_no (f := fun p => has p c ys) fun p hp => ?_
        cases hh : has p c ys with
        | false => rfl
        | true =>
          have hb := (has_under hw.1 hu ht hp hh).2
          have hroom : q.n < bitsOf q.b := hu.room hw.1 ht (fun hn => by rw [hn] at hp; cases hp)
          rw [side_bit hw.1 hy h hroom, hb] at hs
          cases d <;> cases hs
      cases hs : sideB q c ys with
      | true => rw [if_pos rfl, hfl hw.2.1 hw.2.2.2.1 hs, pth_toL hy hw.2.2.2.2]; rfl
      | false => rw [if_neg (by decide), hfl hw.2.2.1 hw.2.2.2.2 hs, pth_toL hy hw.2.2.2.1, List.append_nil]
    · rw [if_neg h]
      have hq0 : (ent q v).filter (fun e => has e.1 c ys) = [] := List.filter_eq_nil_iff.2 fun e he => by rw [ent_key he]; exact h
      have hno : ∀ {d : Bool} {t : Tr}, Under q d t → Wf t → t.toL.filter (fun e => has e.1 c ys) = [] := fun hu ht => filter_no (f := fun p => has p c ys) fun p hp => by
        cases hh : has p c ys with
        | false => rfl
        | true => exact absurd (has_under hw.1 hu ht hp hh).1 h
      rw [hq0, hno hw.2.1 hw.2.2.2.1, hno hw.2.2.1 hw.2.2.2.2]
      rfl
end Go.Proofs.Ytnbohhiooigmbaa
