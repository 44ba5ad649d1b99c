/-
  Trees of timers as lists of records: who lies under whom, what a deadline is, what is left behind a cancel; no program, no memory.
  Conditions: as each theorem says.
-/
import Derived.Test.YtbgddldkpjeieaaGreatOrd2
namespace Go.Proofs.YtbgddldkpjeieaaGreat
open Go.ChangeShapes Go.WideShapes Go.ChangeAt Go.RowKit Go.Maps
set_option linter.unusedVariables false

structure Rec where
  id : Int
  due : Int
  par : Int
  val : Value

structure Wood (L : List Rec) (last : Int) : Prop where
  asc : L.Pairwise (fun a b => a.id < b.id)
  id : ∀ r ∈ L, 1 ≤ r.id ∧ r.id ≤ last
  par : ∀ r ∈ L, r.par = 0 ∨ (r.par < r.id ∧ ∃ p ∈ L, p.id = r.par)
  due : ∀ r ∈ L, 0 ≤ r.due ∧ r.due ≤ 18446744073709551615
  len : (L.length : Int) ≤ last

inductive Under (L : List Rec) (k : Int) : Int → Prop
  | self : Under L k k
  | step (r : Rec) (h : r ∈ L) (hu : Under L k r.par) : Under L k r.id

inductive Dl (L : List Rec) : Int → Int → Prop
  | root (r : Rec) (h : r ∈ L) (h0 : r.par = 0) : Dl L r.id r.due
  | step (r : Rec) (h : r ∈ L) (h0 : r.par ≠ 0) (d : Int) (hd : Dl L r.par d) : Dl L r.id (min r.due d)

theorem pairwise_uniq {L : List Rec} (h : L.Pairwise (fun a b => a.id < b.id)) {r r' : Rec} (hr : r ∈ L) (hr' : r' ∈ L) (he : r.id = r'.id) : r = r' := by
  induction h with
  | nil => simp at hr
  | cons h1 _ ih =>
    rcases List.mem_cons.1 hr with e1 | m1
    · rcases List.mem_cons.1 hr' with e2 | m2
      · rw [e1, e2]
      · have := h1 _ m2; rw [← e1] at this; omega
    · rcases List.mem_cons.1 hr' with e2 | m2
      · have := h1 _ m1; rw [← e2] at this; omega
      · exact ih m1 m2

theorem len_of_sub {xs : List Int} : ∀ {ys : List Int}, xs.Nodup → (∀ x ∈ xs, x ∈ ys) → xs.length ≤ ys.length := by
  induction xs with
  | nil => intro ys _ _; simp
  | cons a xs ih =>
    intro ys hn hs
    have ha : a ∈ ys := hs a List.mem_cons_self
    have hn' := List.nodup_cons.1 hn
    have h1 := ih (ys := ys.erase a) hn'.2 fun x hx => (List.mem_erase_of_ne (show x ≠ a from fun e => hn'.1 (by rw [← e]; exact hx))).2 (hs x (List.mem_cons_of_mem _ hx))
    have h2 := List.length_erase_of_mem ha
    have h3 : 0 < ys.length := List.length_pos_of_mem ha
    simp
    omega

section
variable {L : List Rec} {last k : Int}

theorem Wood.uniq (h : Wood L last) {r r' : Rec} (hr : r ∈ L) (hr' : r' ∈ L) (he : r.id = r'.id) : r = r' := pairwise_uniq h.asc hr hr' he

theorem Wood.par_lt (h : Wood L last) {r : Rec} (hr : r ∈ L) : 0 ≤ r.par ∧ r.par < r.id := by
  have h1 := h.id r hr
  rcases h.par r hr with h0 | ⟨h0, p, hp, he⟩
  · omega
  · have := h.id p hp; omega

theorem Wood.under_le (h : Wood L last) (hk : 1 ≤ k) {x : Int} (hu : Under L k x) : k ≤ x := by
  induction hu with
  | self => omega
  | step r hr _ ih => have := h.par_lt hr; omega

theorem Wood.under_inv (h : Wood L last) {r : Rec} (hr : r ∈ L) (hu : Under L k r.id) : r.id = k ∨ Under L k r.par := by
  generalize hx : r.id = x at hu
  cases hu with
  | self => exact .inl rfl
  | step r' hr' hu' => have := h.uniq hr hr' hx; subst this; exact .inr hu'

noncomputable def isU (L : List Rec) (k : Int) (r : Rec) : Bool := @decide (Under L k r.id) (Classical.propDecidable _)
noncomputable def fam (L : List Rec) (k : Int) : List Rec := L.filter (isU L k)
noncomputable def rest (L : List Rec) (k : Int) : List Rec := L.filter (fun r => !isU L k r)

theorem isU_iff {r : Rec} : isU L k r = true ↔ Under L k r.id := by unfold isU; simp
theorem mem_fam {r : Rec} : r ∈ fam L k ↔ r ∈ L ∧ Under L k r.id := by unfold fam; rw [List.mem_filter, isU_iff]
theorem mem_rest {r : Rec} : r ∈ rest L k ↔ r ∈ L ∧ ¬ Under L k r.id := by
  unfold rest; rw [List.mem_filter]
  have := @isU_iff L k r
  cases h : isU L k r <;> simp [h] at this ⊢ <;> simp [this]

theorem fam_rest (L : List Rec) (k : Int) : (fam L k ++ rest L k).Perm L := List.filter_append_perm _ L

theorem fam_len (L : List Rec) (k : Int) : (fam L k).length + (rest L k).length = L.length := by
  have := (fam_rest L k).length_eq
  simpa using this

theorem Wood.rest (h : Wood L last) (k : Int) : Wood (rest L k) last := by
  refine ⟨h.asc.filter _, fun r hr => h.id r (mem_rest.1 hr).1, fun r hr => ?_, fun r hr => h.due r (mem_rest.1 hr).1, ?_⟩
  · obtain ⟨hm, hu⟩ := mem_rest.1 hr
    rcases h.par r hm with h0 | ⟨h0, p, hp, he⟩
    · exact .inl h0
    · exact .inr ⟨h0, p, mem_rest.2 ⟨hp, fun hu' => hu (.step r hm (he ▸ hu'))⟩, he⟩
  · have h1 := fam_len L k
    have h2 := h.len
    omega

/-- Who is a child of whom in what is left: the children that were, but for the cancelled one itself. -/
theorem Wood.rest_kids (h : Wood L last) {r : Rec} (hr : r ∈ YtbgddldkpjeieaaGreat.rest L k) (x : Int) : (∃ r' ∈ YtbgddldkpjeieaaGreat.rest L k, r'.id = x ∧ r'.par = r.id) ↔ (∃ r' ∈ L, r'.id = x ∧ r'.par = r.id) ∧ x ≠ k := by
  obtain ⟨hm, hu⟩ := mem_rest.1 hr
  constructor
  · rintro ⟨r', hr', rfl, hp⟩
    obtain ⟨hm', hu'⟩ := mem_rest.1 hr'
    exact ⟨⟨r', hm', rfl, hp⟩, fun e => hu' (e ▸ .self)⟩
  · rintro ⟨⟨r', hm', rfl, hp⟩, hne⟩
    refine ⟨r', mem_rest.2 ⟨hm', fun hu' => ?_⟩, rfl, hp⟩
    rcases h.under_inv hm' hu' with e | e
    · exact hne e
    · rw [hp] at e; exact hu e

theorem Wood.start (h : Wood L last) (hl : 0 ≤ last) {d p : Int} {v : Value} (hp : p = 0 ∨ ∃ q ∈ L, q.id = p) (hd : 0 ≤ d ∧ d ≤ 18446744073709551615) : Wood (L ++ [⟨last + 1, d, p, v⟩]) (last + 1) := by
  refine ⟨?_, ?_, ?_, ?_, ?_⟩
  · refine List.pairwise_append.2 ⟨h.asc, List.pairwise_singleton _ _, fun a ha b hb => ?_⟩
    have := h.id a ha
    simp at hb
    subst hb
    show a.id < last + 1
    omega
  · intro r hr
    rcases List.mem_append.1 hr with hr | hr
    · have := h.id r hr; omega
    · simp at hr; subst hr; show 1 ≤ last + 1 ∧ last + 1 ≤ last + 1; omega
  · intro r hr
    rcases List.mem_append.1 hr with hr | hr
    · rcases h.par r hr with h0 | ⟨h0, q, hq, he⟩
      · exact .inl h0
      · exact .inr ⟨h0, q, List.mem_append_left _ hq, he⟩
    · simp at hr; subst hr
      rcases hp with rfl | ⟨q, hq, rfl⟩
      · exact .inl rfl
      · have := h.id q hq
        exact .inr ⟨by show q.id < last + 1; omega, q, List.mem_append_left _ hq, rfl⟩
  · intro r hr
    rcases List.mem_append.1 hr with hr | hr
    · exact h.due r hr
    · simp at hr; subst hr; exact hd
  · have := h.len
    simp
    omega

def redue (k d : Int) (r : Rec) : Rec := if r.id = k then { r with due := d } else r
theorem redue_id (k d : Int) (r : Rec) : (redue k d r).id = r.id := by unfold redue; split <;> rfl
theorem redue_par (k d : Int) (r : Rec) : (redue k d r).par = r.par := by unfold redue; split <;> rfl
theorem redue_val (k d : Int) (r : Rec) : (redue k d r).val = r.val := by unfold redue; split <;> rfl

theorem Wood.reset (h : Wood L last) (k : Int) {d : Int} (hd : 0 ≤ d ∧ d ≤ 18446744073709551615) : Wood (L.map (redue k d)) last := by
  refine ⟨?_, ?_, ?_, ?_, by simpa using h.len⟩
  · refine List.pairwise_map.2 (h.asc.imp fun {a b} hab => ?_)
    rw [redue_id, redue_id]; exact hab
  · intro r hr
    obtain ⟨q, hq, rfl⟩ := List.mem_map.1 hr
    rw [redue_id]; exact h.id q hq
  · intro r hr
    obtain ⟨q, hq, rfl⟩ := List.mem_map.1 hr
    rw [redue_id, redue_par]
    rcases h.par q hq with h0 | ⟨h0, p, hp, he⟩
    · exact .inl h0
    · exact .inr ⟨h0, _, List.mem_map_of_mem hp, by rw [redue_id]; exact he⟩
  · intro r hr
    obtain ⟨q, hq, rfl⟩ := List.mem_map.1 hr
    unfold redue
    split
    · exact hd
    · exact h.due q hq

theorem Dl.le (h : Wood L last) {r : Rec} (hr : r ∈ L) {d : Int} (hd : Dl L r.id d) : d ≤ r.due := by
  generalize hx : r.id = x at hd
  cases hd with
  | root r' hr' h0 => have := h.uniq hr hr' hx; subst this; omega
  | step r' hr' h0 d' hd' => have := h.uniq hr hr' hx; subst this; omega

theorem Dl.uniq (h : Wood L last) {x d : Int} (hd : Dl L x d) : ∀ {d' : Int}, Dl L x d' → d = d' := by
  induction hd with
  | root r hr h0 =>
    intro d' hd'
    generalize hx : r.id = x at hd'
    cases hd' with
    | root r' hr' h0' => have := h.uniq hr hr' hx; subst this; rfl
    | step r' hr' h0' d' hd' => have := h.uniq hr hr' hx; subst this; exact absurd h0 h0'
  | step r hr h0 d1 hd1 ih =>
    intro d' hd'
    generalize hx : r.id = x at hd'
    cases hd' with
    | root r' hr' h0' => have := h.uniq hr hr' hx; subst this; exact absurd h0' h0
    | step r' hr' h0' d' hd' => have := h.uniq hr hr' hx; subst this; rw [ih hd']

theorem Dl.mem {x d : Int} (hd : Dl L x d) : ∃ r ∈ L, r.id = x := by
  cases hd with
  | root r hr h0 => exact ⟨r, hr, rfl⟩
  | step r hr h0 d1 hd1 => exact ⟨r, hr, rfl⟩

/-- The queue of a family on its way: i of its members have been visited. -/
structure Bfs (L : List Rec) (k : Int) (xs : List Int) (i : Nat) : Prop where
  nd : xs.Nodup
  head : k ∈ xs
  mem : ∀ x ∈ xs, (∃ r ∈ L, r.id = x) ∧ Under L k x
  from_ : ∀ x ∈ xs, x = k ∨ ∃ j, j < i ∧ ∃ y, xs[j]? = some y ∧ ∃ r ∈ L, r.id = x ∧ r.par = y
  seen : ∀ j, j < i → ∀ y, xs[j]? = some y → ∀ r ∈ L, r.par = y → r.id ∈ xs

theorem Bfs.start {r : Rec} (hr : r ∈ L) : Bfs L r.id [r.id] 0 :=
  ⟨by simp, by simp, fun x hx => by simp at hx; subst hx; exact ⟨⟨r, hr, rfl⟩, .self⟩, fun x hx => by simp at hx; exact .inl hx, fun j hj => by omega⟩

/-- The children ys of the i-th member have been put behind. -/
theorem Bfs.next (h : Wood L last) (hk : 1 ≤ k) {xs ys : List Int} {i : Nat} {y : Int} (hB : Bfs L k xs i) (hy : xs[i]? = some y) (hn : ys.Nodup) (hm : ∀ x, x ∈ ys ↔ ∃ r ∈ L, r.id = x ∧ r.par = y) : Bfs L k (xs ++ ys) (i + 1) := by
  have hil : i < xs.length := (List.getElem?_eq_some_iff.1 hy).1
  have hyx : y ∈ xs := List.mem_of_getElem? hy
  have hyu := (hB.mem y hyx).2
  have keep : ∀ {j : Nat} {z : Int}, xs[j]? = some z → (xs ++ ys)[j]? = some z := fun {j z} hj => by
    rw [List.getElem?_append_left (List.getElem?_eq_some_iff.1 hj).1]; exact hj
  refine ⟨List.nodup_append.2 ⟨hB.nd, hn, ?_⟩, List.mem_append_left _ hB.head, ?_, ?_, ?_⟩
  · intro a ha b hb e
    subst e
    obtain ⟨r, hr, rfl, hp⟩ := (hm a).1 hb
    rcases hB.from_ _ ha with e | ⟨j, hj, z, hz, r', hr', he, hp'⟩
    · have h1 := h.under_le hk hyu
      have h2 := h.par_lt hr
      omega
    · have := h.uniq hr' hr he
      subst this
      rw [hp] at hp'
      subst hp'
      have h1 := (List.getElem?_inj (by have := (List.getElem?_eq_some_iff.1 hz).1; exact this) hB.nd).1 (hz.trans hy.symm)
      omega
  · intro x hx
    rcases List.mem_append.1 hx with hx | hx
    · exact hB.mem x hx
    · obtain ⟨r, hr, rfl, hp⟩ := (hm x).1 hx
      exact ⟨⟨r, hr, rfl⟩, .step r hr (hp ▸ hyu)⟩
  · intro x hx
    rcases List.mem_append.1 hx with hx | hx
    · rcases hB.from_ x hx with e | ⟨j, hj, z, hz, hr⟩
      · exact .inl e
      · exact .inr ⟨j, by omega, z, keep hz, hr⟩
    · obtain ⟨r, hr, rfl, hp⟩ := (hm x).1 hx
      exact .inr ⟨i, by omega, y, keep hy, r, hr, rfl, hp⟩
  · intro j hj z hz r hr hp
    by_cases hji : j = i
    · subst hji
      rw [keep hy] at hz
      cases hz
      exact List.mem_append_right _ ((hm r.id).2 ⟨r, hr, rfl, hp⟩)
    · have hjx : j < xs.length := by omega
      rw [List.getElem?_append_left hjx] at hz
      exact List.mem_append_left _ (hB.seen j (by omega) z hz r hr hp)

theorem map_id_nodup (h : Wood L last) (p : Rec → Bool) : ((L.filter p).map Rec.id).Nodup := by
  refine List.pairwise_map.2 ((h.asc.filter p).imp fun {a b} hab e => ?_)
  omega

theorem Bfs.len (h : Wood L last) {xs : List Int} {i : Nat} (hB : Bfs L k xs i) : (xs.length : Int) ≤ last := by
  have h1 : xs.length ≤ (L.map Rec.id).length := by
    refine len_of_sub hB.nd fun x hx => ?_
    obtain ⟨⟨r, hr, rfl⟩, _⟩ := hB.mem x hx
    exact List.mem_map_of_mem hr
  have h2 := h.len
  simp at h1
  omega

theorem Bfs.done (h : Wood L last) {xs : List Int} {i : Nat} (hB : Bfs L k xs i) (hi : i = xs.length) : xs.Perm ((fam L k).map Rec.id) := by
  refine (List.perm_ext_iff_of_nodup hB.nd (map_id_nodup h _)).2 fun x => ?_
  constructor
  · intro hx
    obtain ⟨⟨r, hr, rfl⟩, hu⟩ := hB.mem x hx
    exact List.mem_map_of_mem (mem_fam.2 ⟨hr, hu⟩)
  · intro hx
    obtain ⟨r, hr, rfl⟩ := List.mem_map.1 hx
    have hu := (mem_fam.1 hr).2
    clear hr hx
    generalize r.id = x at hu
    induction hu with
    | self => exact hB.head
    | step r' hr' _ ih =>
      obtain ⟨j, hj⟩ := List.mem_iff_getElem?.1 ih
      exact hB.seen j (by have := (List.getElem?_eq_some_iff.1 hj).1; omega) _ hj r' hr' rfl

theorem sort_fam (h : Wood L last) {xs : List Int} (hp : xs.Perm ((fam L k).map Rec.id)) : xs.mergeSort (fun x y => decide (x ≤ y)) = (fam L k).map Rec.id := by
  have tr : ∀ a b c : Int, decide (a ≤ b) = true → decide (b ≤ c) = true → decide (a ≤ c) = true := fun a b c h1 h2 => by simp only [decide_eq_true_eq] at *; omega
  have to : ∀ a b : Int, (decide (a ≤ b) || decide (b ≤ a)) = true := fun a b => by simp only [Bool.or_eq_true, decide_eq_true_eq]; omega
  refine List.Perm.eq_of_pairwise (le := fun a b => decide (a ≤ b) = true) (fun a b _ _ h1 h2 => ?_) (List.pairwise_mergeSort tr to xs) ?_ ((List.mergeSort_perm xs _).trans hp)
  · simp only [decide_eq_true_eq] at h1 h2; omega
  · refine List.pairwise_map.2 ((h.asc.filter _).imp fun {a b} hab => ?_)
    simp only [decide_eq_true_eq]; omega

/-- The cancelled one comes first in its family. -/
theorem fam_head (h : Wood L last) (hk : 1 ≤ k) {r : Rec} (hr : r ∈ L) (he : r.id = k) : ∃ T, fam L k = r :: T := by
  have hm : r ∈ fam L k := mem_fam.2 ⟨hr, he ▸ .self⟩
  cases hF : fam L k with
  | nil => rw [hF] at hm; simp at hm
  | cons a T =>
    rw [hF] at hm
    rcases List.mem_cons.1 hm with rfl | hm
    · exact ⟨T, rfl⟩
    · have hs : (fam L k).Pairwise (fun a b => a.id < b.id) := h.asc.filter _
      rw [hF] at hs
      have h1 := (List.pairwise_cons.1 hs).1 r hm
      have h2 := h.under_le hk (mem_fam.1 (show a ∈ fam L k by rw [hF]; exact List.mem_cons_self)).2
      omega

end
end Go.Proofs.YtbgddldkpjeieaaGreat
