/-
  What the operations of a descriptor table do to the list of its entries; no walk, no memory.
  Conditions: as each theorem says.
-/
import Derived.Test.YtanhjjinedjaaaaSearch
import Derived.Test.YtanhjjinedjaaaaNum
import Derived.Test.YtanhjjinedjaaaaValid
namespace Go.Proofs.Ytanhjjinedjaaaa
open Go.ChangeShapes Go.WideShapes Go.ChangeAt Go.RowKit
set_option linter.unusedVariables false

theorem no_hit {L : List D} {x : Int × Int} {i : Nat} (hs : Sorted L) (hp : Place L x i) (hh : Hit L x i false) : ∀ d ∈ L, d.key ≠ x := by
  intro d hd he
  obtain ⟨j, hj⟩ := List.mem_iff_getElem?.1 hd
  rcases Nat.lt_trichotomy j i with h | h | h
  · have := hp.2.1 j d h hj
    rw [he] at this
    exact lt_irrefl _ this
  · subst h
    have := hh.2 ⟨d, hj, he⟩
    cases this
  · have hj' := (List.getElem?_eq_some_iff.1 hj).1
    obtain ⟨e, hi⟩ : ∃ e, L[i]? = some e := ⟨_, List.getElem?_eq_getElem (by omega)⟩
    have h1 := sorted_get hs h hi hj
    rw [he] at h1
    exact hp.2.2 i e (Nat.le_refl _) hi h1

theorem key_inj {L : List D} (hs : Sorted L) {d e : D} (hd : d ∈ L) (he : e ∈ L) (hk : d.key = e.key) : d = e := by
  obtain ⟨i, hi⟩ := List.mem_iff_getElem?.1 hd
  obtain ⟨j, hj⟩ := List.mem_iff_getElem?.1 he
  rcases Nat.lt_trichotomy i j with h | h | h
  · have := sorted_get hs h hi hj
    rw [hk] at this
    exact absurd this (lt_irrefl _)
  · subst h; rw [hi] at hj; cases hj; rfl
  · have := sorted_get hs h hj hi
    rw [hk] at this
    exact absurd this (lt_irrefl _)

theorem set_map {α : Type} (f : D → α) {L : List D} {i : Nat} {d d' : D} (hi : L[i]? = some d) (hf : f d' = f d) : (L.set i d').map f = L.map f := by
  rw [List.map_set, hf]
  apply List.ext_getElem?
  intro j
  rw [List.getElem?_set]
  by_cases h : i = j
  · subst h
    rw [if_pos rfl, List.length_map, if_pos (List.getElem?_eq_some_iff.1 hi).1, List.getElem?_map, hi]
    rfl
  · rw [if_neg h]

theorem Sound.set {L : List D} {size i : Nat} {d : D} (h : Sound L size) (hi : L[i]? = some d) (s : Int) : Sound (L.set i { d with st := s }) size := by
  refine ⟨?_, by rw [List.length_set]; exact h.len, h.small, fun e he => ?_, ?_⟩
  · have h1 := h.sorted
    unfold Sorted at h1 ⊢
    rw [← List.pairwise_map (f := D.key) (R := lt)] at h1 ⊢
    rw [set_map D.key (d' := { d with st := s }) hi rfl]
    exact h1
  · rcases List.mem_or_eq_of_mem_set he with h1 | rfl
    · exact h.no e h1
    · exact h.no d (List.mem_of_getElem? hi)
  · have h1 := h.nodup
    rw [← List.pairwise_map (f := D.no) (R := (· ≠ ·))] at h1 ⊢
    rw [set_map D.no (d' := { d with st := s }) hi rfl]
    exact h1

theorem Sound.cut {L : List D} {size i : Nat} (h : Sound L size) : Sound (L.take i ++ L.drop (i + 1)) size := by
  have hsub : (L.take i ++ L.drop (i + 1)).Sublist L := by
    have h1 : (L.take i ++ L.drop (i + 1)).Sublist (L.take i ++ L.drop i) := List.Sublist.append_left (by
      rw [← List.drop_drop]
      exact List.drop_sublist _ _) _
    rw [List.take_append_drop] at h1
    exact h1
  exact ⟨h.sorted.sublist hsub, Nat.le_trans hsub.length_le h.len, h.small, fun d hd => h.no d (hsub.subset hd), h.nodup.sublist hsub⟩

theorem perm_at {L : List D} {i : Nat} {d : D} (hi : L[i]? = some d) : L.Perm (d :: (L.take i ++ L.drop (i + 1))) := by
  have h1 : L = L.take i ++ d :: L.drop (i + 1) := by
    obtain ⟨h, rfl⟩ := List.getElem?_eq_some_iff.1 hi
    rw [List.getElem_cons_drop, List.take_append_drop]
  conv => lhs; rw [h1]
  exact List.perm_middle

theorem perm_set {L : List D} {i : Nat} {d : D} (hi : L[i]? = some d) (d' : D) : (L.set i d').Perm (d' :: (L.take i ++ L.drop (i + 1))) := by
  have hl := (List.getElem?_eq_some_iff.1 hi).1
  have h1 : L.set i d' = L.take i ++ d' :: L.drop (i + 1) := List.set_eq_take_append_cons_drop .. |>.trans (if_pos hl)
  rw [h1]
  exact List.perm_middle

/-- The state behind a change, if the state permits it. -/
def nx (c st : Int) : Option Int :=
  if c = 0 then (if st = 1 then some 2 else none)
  else if c = 1 then (if st = 2 then some 3 else if st = 4 then some 5 else none)
  else (if st = 2 then some 4 else if st = 3 then some 5 else none)

/-- A change of state: what it answers, what it leaves. -/
def Ap (c : Int) (L : List D) (x : Int × Int) (r : Int) (L' : List D) : Prop :=
  ((∀ d ∈ L, d.key ≠ x) ∧ r = 4 ∧ L' = L) ∨ (∃ d ∈ L, d.key = x ∧ nx c d.st = none ∧ r = 7 ∧ L' = L) ∨ (∃ d s R, L.Perm (d :: R) ∧ d.key = x ∧ nx c d.st = some s ∧ r = 0 ∧ L'.Perm ({ d with st := s } :: R))

/-- A close. -/
def Cl (L : List D) (x : Int × Int) (r : Int) (L' : List D) : Prop :=
  ((∀ d ∈ L, d.key ≠ x) ∧ r = 4 ∧ L' = L) ∨ (∃ d, L.Perm (d :: L') ∧ d.key = x ∧ r = 0)

/-- An opening. -/
def Opn (L : List D) (x : Int × Int) (st : Int) (size : Nat) (no : Nat) (r : Int) (L' : List D) (k : Nat) : Prop :=
  (¬ Valid x ∧ no = 0 ∧ r = 1 ∧ L' = L ∧ k = 0) ∨ (Valid x ∧ (∃ d ∈ L, d.key = x) ∧ no = 0 ∧ r = 5 ∧ L' = L ∧ k = 0) ∨ (Valid x ∧ (∀ d ∈ L, d.key ≠ x) ∧ size ≤ L.length ∧ no = 0 ∧ r = 6 ∧ L' = L ∧ k = 0) ∨
  (Valid x ∧ (∀ d ∈ L, d.key ≠ x) ∧ L.length < size ∧ r = 0 ∧ Least L no ∧ L'.Perm (⟨x.1, x.2, no, st⟩ :: L) ∧ k = 1)

theorem Ap.same {c : Int} {L M L' M' : List D} {x : Int × Int} {r s : Int} (hs : Sorted L) (hp : L.Perm M) (h : Ap c L x r L') (k : Ap c M x s M') : r = s ∧ L'.Perm M' := by
  have hno : (∀ d ∈ L, d.key ≠ x) → (∀ d ∈ M, d.key ≠ x) := fun h d hd => h d (hp.mem_iff.2 hd)
  have hno' : (∀ d ∈ M, d.key ≠ x) → (∀ d ∈ L, d.key ≠ x) := fun h d hd => h d (hp.mem_iff.1 hd)
  rcases h with ⟨h1, rfl, rfl⟩ | ⟨d, hd, hk, hn, rfl, rfl⟩ | ⟨d, t, R, hd, hk, hn, rfl, hL⟩ <;> rcases k with ⟨k1, rfl, rfl⟩ | ⟨e, he, hke, hne, rfl, rfl⟩ | ⟨e, t', R', he, hke, hne, rfl, hM⟩
  · exact ⟨rfl, hp⟩
  · exact absurd hke (hno h1 e he)
  · exact absurd hke (hno h1 e (he.mem_iff.2 (by simp)))
  · exact absurd hk (hno' k1 d hd)
  · exact ⟨rfl, hp⟩
  · have heq := key_inj hs hd (hp.mem_iff.2 (he.mem_iff.2 (List.mem_cons_self ..))) (hk.trans hke.symm)
    subst heq
    rw [hn] at hne; cases hne
  · exact absurd hk (hno' k1 d (hd.mem_iff.2 (by simp)))
  · have heq := key_inj hs (hd.mem_iff.2 (List.mem_cons_self ..)) (hp.mem_iff.2 he) (hk.trans hke.symm)
    subst heq
    rw [hn] at hne; cases hne
  · have heq := key_inj hs (hd.mem_iff.2 (List.mem_cons_self ..)) (hp.mem_iff.2 (he.mem_iff.2 (List.mem_cons_self ..))) (hk.trans hke.symm)
    subst heq
    rw [hn] at hne; cases hne
    refine ⟨rfl, hL.trans (List.Perm.trans ?_ hM.symm)⟩
    exact List.Perm.cons _ (List.Perm.cons_inv (hd.symm.trans (hp.trans he)))

theorem Cl.same {L M L' M' : List D} {x : Int × Int} {r s : Int} (hs : Sorted L) (hp : L.Perm M) (h : Cl L x r L') (k : Cl M x s M') : r = s ∧ L'.Perm M' := by
  rcases h with ⟨h1, rfl, rfl⟩ | ⟨d, hd, hk, rfl⟩ <;> rcases k with ⟨k1, rfl, rfl⟩ | ⟨e, he, hke, rfl⟩
  · exact ⟨rfl, hp⟩
  · exact absurd hke (h1 e (hp.mem_iff.2 (he.mem_iff.2 (List.mem_cons_self ..))))
  · exact absurd hk (k1 d (hp.mem_iff.1 (hd.mem_iff.2 (List.mem_cons_self ..))))
  · have heq := key_inj hs (hd.mem_iff.2 (List.mem_cons_self ..)) (hp.mem_iff.2 (he.mem_iff.2 (List.mem_cons_self ..))) (hk.trans hke.symm)
    subst heq
    exact ⟨rfl, List.Perm.cons_inv (hd.symm.trans (hp.trans he))⟩

theorem Opn.same {L M L' M' : List D} {x : Int × Int} {st r s : Int} {size no no' k k' : Nat} (hs : Sorted L) (hp : L.Perm M) (h : Opn L x st size no r L' k) (q : Opn M x st size no' s M' k') : no = no' ∧ r = s ∧ L'.Perm M' ∧ k = k' := by
  have hl := hp.length_eq
  have ha : (∃ d ∈ L, d.key = x) → ¬ (∀ d ∈ M, d.key ≠ x) := fun ⟨d, hd, hk⟩ h => h d (hp.mem_iff.1 hd) hk
  have hb : (∀ d ∈ L, d.key ≠ x) → ¬ (∃ d ∈ M, d.key = x) := fun h ⟨d, hd, hk⟩ => h d (hp.mem_iff.2 hd) hk
  rcases h with ⟨h1, rfl, rfl, rfl, rfl⟩ | ⟨h1, h2, rfl, rfl, rfl, rfl⟩ | ⟨h1, h2, h3, rfl, rfl, rfl, rfl⟩ | ⟨h1, h2, h3, rfl, h4, h5, rfl⟩ <;> rcases q with ⟨k1, rfl, rfl, rfl, rfl⟩ | ⟨k1, k2, rfl, rfl, rfl, rfl⟩ | ⟨k1, k2, k3, rfl, rfl, rfl, rfl⟩ | ⟨k1, k2, k3, rfl, k4, k5, rfl⟩
  · exact ⟨rfl, rfl, hp, rfl⟩
  · exact absurd k1 h1
  · exact absurd k1 h1
  · exact absurd k1 h1
  · exact absurd h1 k1
  · exact ⟨rfl, rfl, hp, rfl⟩
  · exact absurd k2 (ha h2)
  · exact absurd k2 (ha h2)
  · exact absurd h1 k1
  · exact absurd k2 (hb h2)
  · exact ⟨rfl, rfl, hp, rfl⟩
  · omega
  · exact absurd h1 k1
  · exact absurd k2 (hb h2)
  · omega
  · have hno : no = no' := Least.unique h4 k4 fun m => ⟨fun ⟨d, hd, he⟩ => ⟨d, hp.mem_iff.1 hd, he⟩, fun ⟨d, hd, he⟩ => ⟨d, hp.mem_iff.2 hd, he⟩⟩
    subst hno
    exact ⟨rfl, rfl, h5.trans ((List.Perm.cons _ hp).trans k5.symm), rfl⟩

end Go.Proofs.Ytanhjjinedjaaaa
