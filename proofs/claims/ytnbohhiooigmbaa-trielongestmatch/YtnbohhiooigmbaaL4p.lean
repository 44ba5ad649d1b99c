/-
  TrieLongestMatch: what its loop keeps; no walk.
  Conditions: as each theorem says.
-/
import Derived.Test.YtnbohhiooigmbaaTl
namespace Go.Proofs.Ytnbohhiooigmbaa
open Go.ChangeShapes Go.WideShapes Go.ChangeAt Go.RowKit
set_option linter.unusedVariables false

/-- The prefix of a length, and its value. -/
def pN (c : Bool) (gx : List Nat) (k : Nat) : Px := ⟨c, pofX c gx k, k⟩
def eN (c : Bool) (gx : List Nat) (k : Nat) : Px × Value := (pN c gx k, .int .i64 (k : Int))
theorem eN_inj {c : Bool} {gx : List Nat} {j k : Nat} (h : (eN c gx j).1 = (eN c gx k).1) : j = k := by
  have h1 : ((j : Nat) : Int) = ((k : Nat) : Int) := congrArg Px.n h
  omega
/-- What the loop keeps of the trie's list. -/
def Keep (c : Bool) (gx gy : List Nat) (L : List (Px × Value)) (f : Nat → Bool) (best : Int) (many : Nat) : Prop :=
  (∀ e ∈ L, ∃ k : Nat, k ≤ 128 ∧ e = eN c gx k) ∧ (∀ k : Nat, f k = true ↔ eN c gx k ∈ L) ∧ many = (inL L c gy).length ∧
    ((best = -1 ∧ inL L c gy = []) ∨ ∃ k : Nat, best = k ∧ k ≤ 128 ∧ eN c gx k ∈ inL L c gy ∧ ∀ e ∈ inL L c gy, e.1.n ≤ k)
theorem keep_nil (c : Bool) (gx gy : List Nat) : Keep c gx gy [] (fun _ => false) (-1) 0 :=
  ⟨fun e he => (by cases he), fun k => ⟨fun h => (by cases h), fun h => (by cases h)⟩, rfl, .inl ⟨rfl, rfl⟩⟩
theorem count_put {p : Px} {x : Value} (g : Px × Value → Bool) : ∀ {L : List (Px × Value)}, (∀ e ∈ L, e.1 ≠ p) → ((putL p x L).filter g).length = (L.filter g).length + if g (p, x) = true then 1 else 0
  | [], _ => by
    rw [putL, List.filter_cons]
    cases g (p, x) <;> simp
  | e :: L, h => by
    have ih := count_put g (p := p) (x := x) (L := L) fun e he => h e (List.mem_cons_of_mem _ he)
    unfold putL
    split
    · rw [List.filter_cons, List.filter_cons]
      split
      · rw [List.length_cons, List.length_cons, ih]; omega
      · exact ih
    · rw [if_neg (h e List.mem_cons_self), List.filter_cons (x := (p, x))]
      split
      · rw [List.length_cons]
      · rfl
theorem keep_step {k : Nat} {c : Bool} {gx gy : List Nat} {L : List (Px × Value)} {f : Nat → Bool} {best : Int} {many : Nat} (hs : Srt L) (hs' : Srt (putL (pN c gx k) (.int .i64 (k : Int)) L)) (h : Keep c gx gy L f best many) (hk : k ≤ 128) :
    Keep c gx gy (putL (pN c gx k) (.int .i64 (k : Int)) L) (fun j => if j = k then true else f j) (if has (pN c gx k) c gy = true then max best k else best) (if has (pN c gx k) c gy = true then (if f k = true then many else many + 1) else many) := by
  obtain ⟨h1, h2, h3, h4⟩ := h
  have hm : ∀ e, e ∈ putL (pN c gx k) (.int .i64 (k : Int)) L ↔ e = eN c gx k ∨ e ∈ L := fun e => by
    rw [putL_mem hs]
    constructor
    · rintro (h | h)
      · exact .inl h
      · exact .inr h.2
    · rintro (h | h)
      · exact .inl h
      · by_cases hq : e.1 = pN c gx k
        · obtain ⟨j, -, rfl⟩ := h1 e h
          left
          rw [eN_inj (j := j) (k := k) hq]; rfl
        · exact .inr ⟨hq, h⟩
  have hi : ∀ e, e ∈ inL (putL (pN c gx k) (.int .i64 (k : Int)) L) c gy ↔ (e = eN c gx k ∧ has (pN c gx k) c gy = true) ∨ e ∈ inL L c gy := fun e => by
    unfold inL
    rw [List.mem_filter, List.mem_filter, hm]
    constructor
    · rintro ⟨h | h, hh⟩
      · subst h; exact .inl ⟨rfl, hh⟩
      · exact .inr ⟨h, hh⟩
    · rintro (⟨h, hh⟩ | ⟨h, hh⟩)
      · subst h; exact ⟨.inl rfl, hh⟩
      · exact ⟨.inr h, hh⟩
  refine ⟨fun e he => ?_, fun j => ?_, ?_, ?_⟩
  · rcases (hm e).1 he with h | h
    · exact ⟨k, hk, h⟩
    · exact h1 e h
  · show (if j = k then true else f j) = true ↔ _
    rw [hm]
    by_cases hj : j = k
    · subst hj; simp
    · rw [if_neg hj, h2]
      exact ⟨.inr, fun h => h.resolve_left fun h => hj (eN_inj (congrArg Prod.fst h))⟩
  · by_cases hf : f k = true
    · have he : putL (pN c gx k) (.int .i64 (k : Int)) L = L := srt_ext hs' hs fun e => by
        rw [hm]
        exact ⟨fun h => h.elim (fun h => h ▸ (h2 k).1 hf) id, .inr⟩
      rw [he, if_pos hf, ite_self, h3]
    · have hc := count_put (p := pN c gx k) (x := .int .i64 (k : Int)) (fun e => has e.1 c gy) (L := L) fun e he hq => by
        obtain ⟨j, -, rfl⟩ := h1 e he
        exact hf ((h2 k).2 (by rw [← eN_inj (j := j) (k := k) hq]; exact he))
      unfold inL
      rw [hc, if_neg hf, h3]
      unfold inL
      by_cases hh : has (pN c gx k) c gy = true
      · rw [if_pos hh, if_pos hh]
      · rw [if_neg hh, if_neg hh]; rfl
  · by_cases hh : has (pN c gx k) c gy = true
    · rw [if_pos hh]
      right
      rcases h4 with ⟨hb, hn⟩ | ⟨j, hb, hj, hjm, hjx⟩
      · refine ⟨k, by omega, hk, (hi _).2 (.inl ⟨rfl, hh⟩), fun e he => ?_⟩
        rcases (hi e).1 he with ⟨h, -⟩ | h
        · subst h; exact Int.le_refl _
        · rw [hn] at h; cases h
      · by_cases hjk : j ≤ k
        · refine ⟨k, by omega, hk, (hi _).2 (.inl ⟨rfl, hh⟩), fun e he => ?_⟩
          rcases (hi e).1 he with ⟨h, -⟩ | h
          · subst h; exact Int.le_refl _
          · have := hjx e h; omega
        · refine ⟨j, by omega, hj, (hi _).2 (.inr hjm), fun e he => ?_⟩
          rcases (hi e).1 he with ⟨h, -⟩ | h
          · subst h; show (k : Int) ≤ j; omega
          · exact hjx e h
    · rw [if_neg hh]
      have he : ∀ e, e ∈ inL (putL (pN c gx k) (.int .i64 (k : Int)) L) c gy ↔ e ∈ inL L c gy := fun e => by
        rw [hi]; exact ⟨fun h => h.resolve_left fun h => hh h.2, .inr⟩
      rcases h4 with ⟨hb, hn⟩ | ⟨j, hb, hj, hjm, hjx⟩
      · left
        refine ⟨hb, List.eq_nil_iff_forall_not_mem.2 fun e h => ?_⟩
        rw [he, hn] at h; cases h
      · exact .inr ⟨j, hb, hj, (he _).2 hjm, fun e h => hjx e ((he e).1 h)⟩
theorem last_of {M : List (Px × Value)} (hp : M.Pairwise fun a b => a.1.n < b.1.n) {e : Px × Value} (he : e ∈ M) (hx : ∀ e' ∈ M, e'.1.n ≤ e.1.n) : M.getLast? = some e := by
  have hne : M ≠ [] := fun h => by rw [h] at he; cases he
  have hd := List.dropLast_concat_getLast hne
  rw [List.getLast?_eq_some_getLast hne]
  rw [← hd] at he hp
  rcases List.mem_append.1 he with h | h
  · have h1 := (List.pairwise_append.1 hp).2.2 e h (M.getLast hne) (by simp)
    have h2 := hx (M.getLast hne) (List.getLast_mem hne)
    omega
  · rw [List.mem_singleton.1 h]
/-- What a lookup finds in the end. -/
theorem keep_end {c : Bool} {gx gy : List Nat} {L : List (Px × Value)} {f : Nat → Bool} {best : Int} {many : Nat} (hs : Srt L) (hok : ∀ e ∈ L, okP e.1) (h : Keep c gx gy L f best many) :
    many = (inL L c gy).length ∧ ((best = -1 ∧ inL L c gy = []) ∨ ∃ k : Nat, best = k ∧ k ≤ 128 ∧ has (pN c gx k) c gy = true ∧ endP (inL L c gy) = pfx c (pofX c gx k) k ∧ endV (.int .i64 0) (inL L c gy) = .int .i64 (k : Int) ∧ (inL L c gy).isEmpty = false) := by
  obtain ⟨h1, h2, h3, h4⟩ := h
  refine ⟨h3, h4.imp id ?_⟩
  rintro ⟨k, hb, hk, hm, hx⟩
  have hl : (inL L c gy).getLast? = some (eN c gx k) := last_of (has_grow hs hok) hm fun e he => hx e he
  refine ⟨k, hb, hk, (List.mem_filter.1 hm).2, ?_, ?_, ?_⟩
  · unfold endP; rw [hl]; rfl
  · unfold endV; rw [hl]; rfl
  · cases hM : inL L c gy with
    | nil => rw [hM] at hm; cases hm
    | cons a l => rfl
end Go.Proofs.Ytnbohhiooigmbaa
