/-
  The order of entries, heap order in a list, and what the two moves do to it; facts on swaps in memory; no walk.
  Conditions: as each theorem says.
-/
import Derived.Test.YtbgddldkpjeieaaGreatState
namespace Go.Proofs.YtbgddldkpjeieaaGreat
open Go.ChangeShapes Go.WideShapes Go.ChangeAt Go.RowKit Go.Maps
set_option linter.unusedVariables false

def Ent.lt (a b : Ent) : Prop := a.due < b.due ∨ (a.due = b.due ∧ a.id < b.id)
instance (a b : Ent) : Decidable (a.lt b) := by unfold Ent.lt; exact inferInstance

theorem lex_lt (a b : Ent) : decide (lexI a.due a.id b.due b.id < 0) = decide (a.lt b) := by
  apply decide_eq_decide.2
  unfold lexI orI cmpI Ent.lt
  split <;> split <;> (try split) <;> (try split) <;> omega

theorem wf_id {k last : Int} (h : 1 ≤ k ∧ k ≤ last) (hl : 0 ≤ last ∧ last ≤ 1000) : (Lit.int .i64 k).wf = true := WalkArith.wf_i64 (by omega)
theorem wf_nat {i n : Nat} (h : n ≤ 1000) (hi : i < n) : (Lit.int .i64 (i : Int)).wf = true := WalkArith.wf_i64 (by omega)

theorem swap_raw {st en : TypeId} {w : World} {hb mb g n m cap : Nat} {A : List Ent} {last : Int} {D : DataW Unit} {i j : Nat} {ei ej : Ent} (h : Raw st en w hb mb (.slice (some ⟨g, 0, none⟩) n cap) A last m D) (hn : A.length = n) (hi : A[i]? = some ei) (hj : A[j]? = some ej) :
    Raw st en ((((((w.setCell ⟨g, i * 3, none⟩ (.int .u64 ej.due)).setCell ⟨g, i * 3 + 1, none⟩ (.int .i64 ej.id)).setCell ⟨g, i * 3 + 2, none⟩ ej.val).setCell ⟨g, j * 3, none⟩ (.int .u64 ei.due)).setCell ⟨g, j * 3 + 1, none⟩ (.int .i64 ei.id)).setCell ⟨g, j * 3 + 2, none⟩ ei.val) hb mb (.slice (some ⟨g, 0, none⟩) n cap) (swp A i j ei ej) last m D :=
  (h.put hn i ej).put (by simpa using hn) j ei

theorem swap_fr (w : World) (hb mb g n cap i j : Nat) (d1 i1 d2 i2 : Int) (v1 v2 : Value) : Fr (Own hb mb (.slice (some ⟨g, 0, none⟩) n cap)) w ((((((w.setCell ⟨g, i * 3, none⟩ (.int .u64 d2)).setCell ⟨g, i * 3 + 1, none⟩ (.int .i64 i2)).setCell ⟨g, i * 3 + 2, none⟩ v2).setCell ⟨g, j * 3, none⟩ (.int .u64 d1)).setCell ⟨g, j * 3 + 1, none⟩ (.int .i64 i1)).setCell ⟨g, j * 3 + 2, none⟩ v1) :=
  (Fr.put w _ _ _ _ _ _).trans (Fr.put _ _ _ _ _ _ _)

/-! ### heap order -/

theorem nlt_trans {a b c : Ent} (h1 : ¬ a.lt b) (h2 : ¬ b.lt c) : ¬ a.lt c := by unfold Ent.lt at *; omega
theorem nlt_of_lt {a b : Ent} (h : a.lt b) : ¬ b.lt a := by unfold Ent.lt at *; omega
theorem nlt_lt {a b c : Ent} (h1 : ¬ a.lt b) (h2 : c.lt b) : ¬ a.lt c := by unfold Ent.lt at *; omega
theorem lt_trans' {a b c : Ent} (h1 : a.lt b) (h2 : b.lt c) : a.lt c := by unfold Ent.lt at *; omega
theorem lt_irrefl' (a : Ent) : ¬ a.lt a := by unfold Ent.lt; omega
theorem lt_nlt {a b c : Ent} (h1 : a.lt b) (h2 : ¬ c.lt b) : a.lt c := by unfold Ent.lt at *; omega

def Ok (A : List Ent) (j : Nat) : Prop := ∀ a b, A[j]? = some a → A[(j - 1) / 2]? = some b → ¬ a.lt b
def Ordered (A : List Ent) : Prop := ∀ j, 0 < j → Ok A j
def Above (i : Nat) (A : List Ent) : Prop := 0 < i → ∀ j a b, 0 < j → (j - 1) / 2 = i → A[j]? = some a → A[(i - 1) / 2]? = some b → ¬ a.lt b
def DownOK (i : Nat) (A : List Ent) : Prop := (∀ j, 0 < j → (j - 1) / 2 ≠ i → Ok A j) ∧ Above i A
def Ex (i : Nat) (A : List Ent) : Prop := (∀ j, 0 < j → j ≠ i → (j - 1) / 2 ≠ i → Ok A j) ∧ Above i A
def Kids (i : Nat) (A : List Ent) : Prop := ∀ j, 0 < j → (j - 1) / 2 = i → Ok A j

theorem up_step {A : List Ent} {i p : Nat} {ei ep : Ent} (hi : A[i]? = some ei) (hp : A[p]? = some ep) (hip : p = (i - 1) / 2) (h0 : 0 < i) (hE : Ex i A) (hlt : ei.lt ep) : Ex p (swp A i p ei ep) ∧ Kids p (swp A i p ei ep) := by
  refine ⟨⟨?_, ?_⟩, ?_⟩
  · intro j hj hjp hjq a b ha hb
    have hji : j ≠ i := fun e => hjq (by omega)
    rw [swp_get hi hp, if_neg hjp, if_neg hji] at ha
    rw [swp_get hi hp, if_neg hjq] at hb
    by_cases hji2 : (j - 1) / 2 = i
    · rw [if_pos hji2] at hb
      cases hb
      exact hE.2 h0 j a ep hj hji2 ha (by rw [← hip]; exact hp)
    · rw [if_neg hji2] at hb
      exact hE.1 j hj hji hji2 a b ha hb
  · intro hp0 j a b hj hjp ha hb
    rw [swp_get hi hp, if_neg (by omega), if_neg (by omega)] at hb
    have hpb : ¬ ep.lt b := hE.1 p hp0 (by omega) (by omega) ep b hp hb
    rw [swp_get hi hp, if_neg (by omega)] at ha
    by_cases hji : j = i
    · rw [if_pos hji] at ha
      cases ha
      exact hpb
    · rw [if_neg hji] at ha
      exact nlt_trans (hE.1 j hj hji (by omega) a ep ha (by rw [hjp]; exact hp)) hpb
  · intro j hj hjp a b ha hb
    rw [hjp, swp_get hi hp, if_pos rfl] at hb
    cases hb
    rw [swp_get hi hp, if_neg (by omega)] at ha
    by_cases hji : j = i
    · rw [if_pos hji] at ha
      cases ha
      exact nlt_of_lt hlt
    · rw [if_neg hji] at ha
      exact nlt_lt (hE.1 j hj hji (by omega) a ep ha (by rw [hjp]; exact hp)) hlt

theorem Ordered.down {A : List Ent} (h : Ordered A) (i : Nat) : DownOK i A := by
  refine ⟨fun j hj _ => h j hj, ?_⟩
  intro h0 j a b hj hji ha hb
  have hjl : j < A.length := (List.getElem?_eq_some_iff.1 ha).1
  have him : A[i]? = some A[i] := List.getElem?_eq_getElem (by omega)
  exact nlt_trans (h j hj a _ ha (by rw [hji]; exact him)) (h i h0 _ b him hb)

theorem Ordered.ex {A : List Ent} (h : Ordered A) (i : Nat) : Ex i A := ⟨fun j hj _ _ => h j hj, (h.down i).2⟩

theorem up_end {A : List Ent} {i i0 : Nat} (hE : Ex i A) (hk : i = i0 ∨ Kids i A) (hs : i = 0 ∨ Ok A i) : DownOK i0 A := by
  have hok : 0 < i → Ok A i := fun h => by rcases hs with h' | h'; omega; exact h'
  rcases hk with rfl | hk
  · refine ⟨fun j hj hji => ?_, hE.2⟩
    by_cases e : j = i
    · subst e; exact hok hj
    · exact hE.1 j hj e hji
  · refine Ordered.down (fun j hj => ?_) i0
    by_cases e : j = i
    · subst e; exact hok hj
    · by_cases e2 : (j - 1) / 2 = i
      · exact hk j hj e2
      · exact hE.1 j hj e e2

theorem down_step {A : List Ent} {i c : Nat} {ei ec : Ent} (hi : A[i]? = some ei) (hc : A[c]? = some ec) (hci : (c - 1) / 2 = i) (h0 : 0 < c) (hD : DownOK i A) (hlt : ec.lt ei)
    (hmin : ∀ j a, 0 < j → (j - 1) / 2 = i → A[j]? = some a → ¬ a.lt ec) : DownOK c (swp A i c ei ec) := by
  refine ⟨?_, ?_⟩
  · intro j hj hjc a b ha hb
    rw [swp_get hi hc] at ha
    by_cases e1 : j = c
    · rw [if_pos e1] at ha
      cases ha
      subst e1
      rw [hci, swp_get hi hc, if_neg (by omega), if_pos rfl] at hb
      cases hb
      exact nlt_of_lt hlt
    · rw [if_neg e1] at ha
      rw [swp_get hi hc, if_neg hjc] at hb
      by_cases e2 : j = i
      · rw [if_pos e2] at ha
        cases ha
        subst e2
        rw [if_neg (by omega)] at hb
        exact hD.2 hj c ec b h0 hci hc hb
      · rw [if_neg e2] at ha
        by_cases e3 : (j - 1) / 2 = i
        · rw [if_pos e3] at hb
          cases hb
          exact hmin j a hj e3 ha
        · rw [if_neg e3] at hb
          exact hD.1 j hj e3 a b ha hb
  · intro _ j a b hj hjc ha hb
    rw [hci, swp_get hi hc, if_neg (by omega), if_pos rfl] at hb
    cases hb
    rw [swp_get hi hc, if_neg (by omega), if_neg (by omega)] at ha
    exact hD.1 j hj (by omega) a ec ha (by rw [hjc]; exact hc)

theorem down_end {A : List Ent} {i : Nat} {ei : Ent} (hi : A[i]? = some ei) (hD : DownOK i A) (hmin : ∀ j a, 0 < j → (j - 1) / 2 = i → A[j]? = some a → ¬ a.lt ei) : Ordered A := by
  intro j hj
  by_cases e : (j - 1) / 2 = i
  · intro a b ha hb
    rw [e, hi] at hb
    cases hb
    exact hmin j a hj e ha
  · exact hD.1 j hj e

theorem swp_perm {A : List Ent} {i j : Nat} {ei ej : Ent} (hi : A[i]? = some ei) (hj : A[j]? = some ej) : (swp A i j ei ej).Perm A := by
  have hil : i < A.length := (List.getElem?_eq_some_iff.1 hi).1
  have hjl : j < A.length := (List.getElem?_eq_some_iff.1 hj).1
  have h := (Array.swap_perm (xs := A.toArray) (i := i) (j := j) (by simpa using hil) (by simpa using hjl)).toList
  have e : (A.toArray.swap i j (by simpa using hil) (by simpa using hjl)).toList = swp A i j ei ej := by
    have h1 : A[i] = ei := (List.getElem?_eq_some_iff.1 hi).2
    have h2 : A[j] = ej := (List.getElem?_eq_some_iff.1 hj).2
    simp [Array.swap_def, swp, h1, h2]
  rw [e] at h
  simpa using h

/-- The first of an ordered list precedes or equals every other. -/
theorem Ordered.first {A : List Ent} (h : Ordered A) {e : Ent} (h0 : A[0]? = some e) : ∀ (j : Nat) (a : Ent), A[j]? = some a → ¬ a.lt e := by
  intro j
  induction j using Nat.strongRecOn with
  | _ j ih =>
    intro a ha
    by_cases hj : j = 0
    · subst hj
      rw [h0] at ha
      cases ha
      exact lt_irrefl' _
    · have hjl : j < A.length := (List.getElem?_eq_some_iff.1 ha).1
      have hm : A[(j - 1) / 2]? = some A[(j - 1) / 2] := List.getElem?_eq_getElem (by omega)
      exact nlt_trans (h j (by omega) a _ ha hm) (ih _ (by omega) _ hm)

/-! ### one entry added, one cut off -/

theorem heap_set0 {w : World} {hb : Nat} {a b c : Value} {st : TypeId} (h : w.heap[hb]? = some (.cells #[a, b, c] st (0, 0))) (v : Value) : (w.setCell ⟨hb, 0, none⟩ v).heap[hb]? = some (.cells #[v, b, c] st (0, 0)) := by
  rw [heap_setCell_same w hb 0 _ _ v h]; rfl
theorem heap_set2 {w : World} {hb : Nat} {a b c : Value} {st : TypeId} (h : w.heap[hb]? = some (.cells #[a, b, c] st (0, 0))) (v : Value) : (w.setCell ⟨hb, 2, none⟩ v).heap[hb]? = some (.cells #[a, b, v] st (0, 0)) := by
  rw [heap_setCell_same w hb 2 _ _ v h]; rfl

section
variable {st en : TypeId} {w w' : World} {hb mb n : Nat} {sv : Value} {A : List Ent} {last : Int} {D : DataW Unit}

theorem Raw.setLast (h : Raw st en w hb mb sv A last n D) (l : Int) : Raw st en (w.setCell ⟨hb, 2, none⟩ (.int .i64 l)) hb mb sv A l n D := by
  refine ⟨heap_set2 h.hdr _, ?_, h.map.setCell (a := ⟨hb, 2, none⟩) h.mne _, h.apart⟩
  exact row_keep h.row fun k hk => heap_setCell_other _ _ _ _ (fun e => h.apart (by rw [hk]; simp [e]))

theorem Fr.hdr {w : World} {hb mb : Nat} {sv : Value} (j : Nat) (v : Value) : Fr (Own hb mb sv) w (w.setCell ⟨hb, j, none⟩ v) := Fr.setCell _ w ⟨hb, j, none⟩ v (Or.inl rfl)

theorem Raw.cut {g m cap : Nat} (h : Raw st en w hb mb (.slice (some ⟨g, 0, none⟩) m cap) A last n D) (hm : A.length = m) (k : Nat) (hk : k ≤ m) :
    Raw st en (w.setCell ⟨hb, 0, none⟩ (.slice (some ⟨g, 0, none⟩) k cap)) hb mb (.slice (some ⟨g, 0, none⟩) k cap) (A.take k) last n D := by
  have hg : g ≠ hb := fun e => h.apart (by simp [Value.ownBlock, e])
  subst hm
  refine ⟨heap_set0 h.hdr _, ?_, h.map.setCell (a := ⟨hb, 0, none⟩) h.mne _, h.apart⟩
  have hl : (A.take k).length = k := by simp; omega
  rw [hl]
  refine ⟨by rw [flat_length, hl], .inr ?_⟩
  rcases h.row.2 with ⟨h', _⟩ | ⟨g', cap', cur, h', hb', hgg, hnc, hcm, hcs, htake⟩
  · cases h'
  · cases h'
    refine ⟨g, cap, cur, rfl, hb', (heap_setCell_other _ _ _ _ hg).trans hgg, by omega, hcm, hcs, ?_⟩
    rw [← flat_take, ← htake, List.take_take]
    congr 1
    omega

theorem Raw.append {g cap : Nat} (h : Raw st en w hb mb sv A last n D) (e : Ent) (hg : w.grownBy w' sv.ownBlock) (hown : w'.ownsRow 0 en 3 (.slice (some ⟨g, 0, none⟩) (A.length + 1) cap) (A.length + 1) (flat A ++ [.int .u64 e.due, .int .i64 e.id, e.val]))
    (hat : sv.ownBlock = some g ∨ w.heap.size ≤ g) : Raw st en (w'.setCell ⟨hb, 0, none⟩ (.slice (some ⟨g, 0, none⟩) (A.length + 1) cap)) hb mb (.slice (some ⟨g, 0, none⟩) (A.length + 1) cap) (A ++ [e]) last n D := by
  have hgb : g ≠ hb := by
    intro e
    rcases hat with h1 | h1
    · exact h.apart (by rw [h1, e])
    · have := h.lt; omega
  refine ⟨heap_set0 ((hg.block hb h.lt (fun e => h.apart e.symm)).trans h.hdr) _, ?_, (h.map.kept hg (fun e => h.rne e.symm)).setCell (a := ⟨hb, 0, none⟩) h.mne _, by simp [Value.ownBlock, hgb]⟩
  rw [List.length_append, flat_append]
  refine row_keep hown fun k hk => heap_setCell_other _ _ _ _ (fun e => ?_)
  simp [Value.ownBlock] at hk
  exact hgb (hk.trans e)
end

theorem ex_of_agree {A B : List Ent} {i : Nat} (h : Ordered A) (hag : ∀ (k : Nat) (b : Ent), k ≠ i → B[k]? = some b → A[k]? = some b) : Ex i B := by
  refine ⟨fun j hj hji hjp a b ha hb => h j hj a b (hag j a hji ha) (hag _ b hjp hb), ?_⟩
  intro h0 j a b hj hji ha hb
  exact (h.down i).2 h0 j a b hj hji (hag j a (by omega) ha) (hag _ b (by omega) hb)

theorem ordered_of_agree {A B : List Ent} (h : Ordered A) (hag : ∀ (k : Nat) (b : Ent), B[k]? = some b → A[k]? = some b) : Ordered B :=
  fun j hj a b ha hb => h j hj a b (hag j a ha) (hag _ b hb)

theorem ordered_nil : Ordered [] := fun j _ a _ ha => by simp at ha

theorem ex_push {A : List Ent} (h : Ordered A) (e : Ent) : Ex A.length (A ++ [e]) :=
  ex_of_agree h fun k b hk hb => by
    have hl := (List.getElem?_eq_some_iff.1 hb).1
    simp at hl
    rwa [List.getElem?_append_left (by omega)] at hb

theorem Sound.push {V : Value → Prop} {A : List Ent} {last : Int} (h : Sound V A last) (d : Int) (v : Value) (hd : 0 ≤ d ∧ d ≤ 18446744073709551615) (hv : V v) (hA : A.length < 1000) (hl : last < 1000) : Sound V (A ++ [⟨d, last + 1, v⟩]) (last + 1) := by
  have key : ∀ (k : Nat) (e : Ent), (A ++ [⟨d, last + 1, v⟩])[k]? = some e → A[k]? = some e ∨ e = ⟨d, last + 1, v⟩ := by
    intro k e hk
    by_cases hl : k < A.length
    · rw [List.getElem?_append_left hl] at hk; exact .inl hk
    · have := (List.getElem?_eq_some_iff.1 hk).1
      simp at this
      obtain rfl : k = A.length := by omega
      simp at hk
      exact .inr hk.symm
  have hl0 := h.last
  refine ⟨fun k e hk => ?_, fun k e hk => ?_, fun k e hk => ?_, by simp; omega, by omega⟩
  · rcases key k e hk with h1 | rfl
    · exact h.due k e h1
    · exact hd
  · rcases key k e hk with h1 | rfl
    · have := h.id k e h1; omega
    · exact ⟨by simp; omega, Int.le_refl _⟩
  · rcases key k e hk with h1 | rfl
    · exact h.val k e h1
    · exact hv

theorem Sound.sub {V : Value → Prop} {A B : List Ent} {last : Int} (h : Sound V A last) (hs : ∀ (k : Nat) (e : Ent), B[k]? = some e → ∃ m : Nat, A[m]? = some e) (hl : B.length ≤ A.length) : Sound V B last :=
  ⟨fun k e hk => let ⟨m, hm⟩ := hs k e hk; h.due m e hm, fun k e hk => let ⟨m, hm⟩ := hs k e hk; h.id m e hm, fun k e hk => let ⟨m, hm⟩ := hs k e hk; h.val m e hm, Nat.le_trans hl h.len, h.last⟩

theorem take_last {A : List Ent} {m : Nat} {e : Ent} (h : A[m]? = some e) (hl : A.length = m + 1) : A = A.take m ++ [e] := by
  have h1 : A[m]'(by omega) = e := (List.getElem?_eq_some_iff.1 h).2
  have := List.take_append_getElem (l := A) (i := m) (by omega)
  rw [h1] at this
  rw [this, List.take_of_length_le (by omega)]

end Go.Proofs.YtbgddldkpjeieaaGreat
