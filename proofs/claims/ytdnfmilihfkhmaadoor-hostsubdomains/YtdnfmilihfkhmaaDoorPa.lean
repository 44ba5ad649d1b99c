/-
  What the reference's parsers give, on lists of bytes, and that it is what Parse gives; no walk.
  Conditions: as each theorem says.
-/
import Derived.Test.YtdnfmilihfkhmaaDoorPs
namespace Go.Proofs.YtdnfmilihfkhmaaDoor
open Go.ChangeShapes Go.WideShapes Go.ChangeAt Go.RowKit
set_option linter.unusedVariables false

/-- The number that decimal digits spell. -/
def digGo : Nat → List UInt8 → Option Nat
  | acc, [] => some acc
  | acc, c :: r => if 48 ≤ c.toNat ∧ c.toNat ≤ 57 then digGo (10 * acc + (c.toNat - 48)) r else none
/-- The number from 0 to a bound that decimal digits without a leading zero spell. -/
def decR (most : Nat) (l : List UInt8) : Option Nat :=
  if l = [] ∨ 6 < l.length ∨ (l.head? = some 48 ∧ 1 < l.length) then none else match digGo 0 l with
    | some n => if n ≤ most then some n else none
    | none => none
/-- Digits, as long as the number is within the bound. -/
def limGo (M : Nat) : Nat → List UInt8 → Option Nat
  | acc, [] => some acc
  | acc, c :: r => if 48 ≤ c.toNat ∧ c.toNat ≤ 57 then (if M < 10 * acc + (c.toNat - 48) then none else limGo M (10 * acc + (c.toNat - 48)) r) else none

theorem digGo_step {l : List UInt8} {i acc : Nat} {c : UInt8} (h : l[i]? = some c) : digGo acc (l.drop i) = if 48 ≤ c.toNat ∧ c.toNat ≤ 57 then digGo (10 * acc + (c.toNat - 48)) (l.drop (i + 1)) else none := by
  obtain ⟨h1, e1⟩ := List.getElem?_eq_some_iff.1 h
  rw [List.drop_eq_getElem_cons h1, e1]
  rfl
theorem limGo_step {M : Nat} {l : List UInt8} {i acc : Nat} {c : UInt8} (h : l[i]? = some c) : limGo M acc (l.drop i) = if 48 ≤ c.toNat ∧ c.toNat ≤ 57 then (if M < 10 * acc + (c.toNat - 48) then none else limGo M (10 * acc + (c.toNat - 48)) (l.drop (i + 1))) else none := by
  obtain ⟨h1, e1⟩ := List.getElem?_eq_some_iff.1 h
  rw [List.drop_eq_getElem_cons h1, e1]
  rfl

theorem digGo_le : ∀ (l : List UInt8) (acc u : Nat), digGo acc l = some u → acc * 10 ^ l.length ≤ u
  | [], acc, u, h => by rw [digGo] at h; cases h; simp
  | c :: r, acc, u, h => by
    rw [digGo] at h
    split at h
    · have := digGo_le r _ u h
      refine Nat.le_trans ?_ this
      rw [List.length_cons, Nat.pow_succ, Nat.mul_comm (10 ^ r.length) 10, ← Nat.mul_assoc]
      exact Nat.mul_le_mul_right _ (by omega)
    · cases h
theorem digGo_acc {l : List UInt8} {acc u : Nat} (h : digGo acc l = some u) : acc ≤ u := by
  have h1 := digGo_le l acc u h
  have h2 : 1 ≤ 10 ^ l.length := Nat.one_le_pow _ _ (by decide)
  have : acc * 1 ≤ acc * 10 ^ l.length := Nat.mul_le_mul_left _ h2
  omega
theorem digGo_lt : ∀ (l : List UInt8) (acc u : Nat), digGo acc l = some u → u < (acc + 1) * 10 ^ l.length
  | [], acc, u, h => by rw [digGo] at h; cases h; simp
  | c :: r, acc, u, h => by
    rw [digGo] at h
    split at h
    · have := digGo_lt r _ u h
      refine Nat.lt_of_lt_of_le this ?_
      rw [List.length_cons, Nat.pow_succ, Nat.mul_comm (10 ^ r.length) 10, ← Nat.mul_assoc]
      exact Nat.mul_le_mul_right _ (by omega)
    · cases h

theorem limGo_dig (M : Nat) : ∀ (l : List UInt8) (acc : Nat), acc ≤ M → limGo M acc l = match digGo acc l with
    | some n => if n ≤ M then some n else none
    | none => none
  | [], acc, h => by simp [limGo, digGo, h]
  | c :: r, acc, h => by
    rw [limGo, digGo]
    by_cases hd : 48 ≤ c.toNat ∧ c.toNat ≤ 57
    · rw [if_pos hd, if_pos hd]
      by_cases hm : M < 10 * acc + (c.toNat - 48)
      · rw [if_pos hm]
        cases hg : digGo (10 * acc + (c.toNat - 48)) r with
        | none => rfl
        | some u =>
          have := digGo_acc hg
          show none = if u ≤ M then some u else none
          rw [if_neg (by omega)]
      · rw [if_neg hm]
        exact limGo_dig M r _ (by omega)
    · rw [if_neg hd, if_neg hd]

/-- Many digits without a leading zero make a great number. -/
theorem digGo_big {l : List UInt8} {u : Nat} (hl : 6 < l.length) (h0 : l.head? ≠ some 48) (h : digGo 0 l = some u) : 1000000 ≤ u := by
  cases l with
  | nil => simp at hl
  | cons c r =>
    rw [digGo] at h
    split at h
    · rename_i hd
      have h1 := digGo_le r _ u h
      have hc : c.toNat ≠ 48 := fun e => h0 (by rw [List.head?_cons]; congr 1; rw [← UInt8.toNat_inj]; exact e)
      have h2 : 10 ^ 6 ≤ 10 ^ r.length := Nat.pow_le_pow_right (by decide) (by simp at hl; omega)
      have h3 : 1 * 10 ^ 6 ≤ (10 * 0 + (c.toNat - 48)) * 10 ^ r.length := Nat.mul_le_mul (by omega) h2
      have e : (10 : Nat) ^ 6 = 1000000 := by decide
      omega
    · cases h

/-- The bound on the length says nothing of its own. -/
theorem decR_lim {M : Nat} (hM : M < 1000000) (l : List UInt8) : decR M l = if l = [] ∨ (l.head? = some 48 ∧ 1 < l.length) then none else limGo M 0 l := by
  rw [limGo_dig M l 0 (by omega), decR]
  by_cases h1 : l = [] ∨ (l.head? = some 48 ∧ 1 < l.length)
  · rw [if_pos h1, if_pos (by rcases h1 with h1 | h1; exact .inl h1; exact .inr (.inr h1))]
  · rw [if_neg h1]
    by_cases h2 : 6 < l.length
    · rw [if_pos (.inr (.inl h2))]
      cases hg : digGo 0 l with
      | none => rfl
      | some u =>
        have := digGo_big h2 (fun e => h1 (.inr ⟨e, by omega⟩)) hg
        show none = if u ≤ M then some u else none
        rw [if_neg (by omega)]
    · rw [if_neg (by rintro (h | h | h); exact h1 (.inl h); exact h2 h; exact h1 (.inr h))]

theorem uintM_lim (M : Nat) (hM : M < 1000000) : ∀ (l : List UInt8) (acc : Nat), acc ≤ M → (match Lib.parseUintM M acc l with
    | .ok u => some u
    | _ => none) = limGo M acc l
  | [], acc, h => rfl
  | c :: r, acc, h => by
    rw [Lib.parseUintM, limGo]
    by_cases hd : 48 ≤ c.toNat ∧ c.toNat ≤ 57
    · rw [if_pos hd, if_pos hd, if_neg (by omega), Nat.mul_comm acc 10]
      by_cases hm : M < 10 * acc + (c.toNat - 48)
      · rw [if_pos hm, if_pos hm]
      · rw [if_neg hm, if_neg hm]
        exact uintM_lim M hM r _ (by omega)
    · rw [if_neg hd, if_neg hd]

theorem decV_decR (l : List UInt8) : decV l = decR 255 l := by
  rw [decR_lim (by omega), decV, Lib.parseUintB]
  by_cases h1 : l = []
  · subst h1; rfl
  · rw [if_neg h1]
    by_cases h2 : 1 < l.length ∧ l.head? = some 48
    · rw [if_pos h2, if_pos (.inr ⟨h2.2, h2.1⟩)]
    · rw [if_neg h2, if_neg (by rintro (h | h); exact h1 h; exact h2 ⟨h.2, h.1⟩)]
      exact uintM_lim 255 (by omega) l 0 (by omega)

theorem decR_le {M : Nat} {l : List UInt8} {x : Nat} (h : decR M l = some x) : x ≤ M := by
  unfold decR at h
  split at h
  · cases h
  · split at h
    · split at h
      · cases h; assumption
      · cases h
    · cases h

theorem digGo_all : ∀ {l : List UInt8} {acc u : Nat}, digGo acc l = some u → ∀ c ∈ l, 48 ≤ c.toNat ∧ c.toNat ≤ 57
  | [], acc, u, h => by intro c hc; cases hc
  | c :: r, acc, u, h => by
    rw [digGo] at h
    split at h
    · rename_i hd
      intro x hx
      rcases List.mem_cons.1 hx with rfl | hx
      · exact hd
      · exact digGo_all h x hx
    · cases h
theorem decR_all {M : Nat} {l : List UInt8} {x : Nat} (h : decR M l = some x) : ∀ c ∈ l, 48 ≤ c.toNat ∧ c.toNat ≤ 57 := by
  unfold decR at h
  split at h
  · cases h
  · split at h
    · rename_i n hn
      exact digGo_all hn
    · cases h

/-- The port that digits spell. -/
def portV (l : List UInt8) : Option Nat := if l = [] ∨ l.head? = some 48 then none else limGo 65535 0 l
theorem limGo_pos {M : Nat} {l : List UInt8} {u : Nat} (h1 : l ≠ []) (h0 : l.head? ≠ some 48) (h : limGo M 0 l = some u) : 1 ≤ u := by
  rw [limGo_dig M l 0 (by omega)] at h
  split at h
  · rename_i n hn
    split at h
    · cases h
      cases l with
      | nil => exact absurd rfl h1
      | cons c r =>
        rw [digGo] at hn
        split at hn
        · have hc : c.toNat ≠ 48 := fun e => h0 (by rw [List.head?_cons]; congr 1; rw [← UInt8.toNat_inj]; exact e)
          have := digGo_acc hn
          omega
        · cases hn
    · cases h
  · cases h
theorem portV_decR (l : List UInt8) : portV l = match decR 65535 l with
    | some n => if n < 1 then none else some n
    | none => none := by
  rw [decR_lim (by omega), portV]
  by_cases h1 : l = []
  · subst h1; rfl
  · by_cases h0 : l.head? = some 48
    · rw [if_pos (.inr h0)]
      by_cases h2 : 1 < l.length
      · rw [if_pos (.inr ⟨h0, h2⟩)]
      · cases l with
        | nil => exact absurd rfl h1
        | cons c r =>
          cases r with
          | nil =>
            cases h0
            decide
          | cons d r => simp at h2
    · rw [if_neg (by rintro (h | h); exact h1 h; exact h0 h), if_neg (by rintro (h | h); exact h1 h; exact h0 h.1)]
      cases hg : limGo 65535 0 l with
      | none => rfl
      | some u =>
        have := limGo_pos h1 h0 hg
        show some u = if u < 1 then none else some u
        rw [if_neg (by omega)]

/-! ### parts -/

theorem cutc_eq {c : UInt8} : ∀ {l a b : List UInt8}, cutc c l = some (a, b) → l = a ++ c :: b
  | [], a, b, h => by cases h
  | x :: l, a, b, h => by
    rw [cutc] at h
    split at h
    · rename_i hx
      cases h
      rw [hx]; rfl
    · obtain ⟨p, hp, he⟩ := Option.map_eq_some_iff.1 h
      cases he
      rw [cutc_eq (a := p.1) (b := p.2) hp]
      rfl
theorem cutc_none {c : UInt8} : ∀ {l : List UInt8}, (∀ x ∈ l, x ≠ c) → cutc c l = none
  | [], h => rfl
  | x :: l, h => by
    rw [cutc, if_neg (h x (by simp)), cutc_none (l := l) (fun y hy => h y (List.mem_cons_of_mem _ hy))]
    rfl
theorem cutc_at {c : UInt8} : ∀ {a b : List UInt8}, (∀ x ∈ a, x ≠ c) → cutc c (a ++ c :: b) = some (a, b)
  | [], b, h => by rw [List.nil_append, cutc, if_pos rfl]
  | x :: a, b, h => by
    rw [List.cons_append, cutc, if_neg (h x (by simp)), cutc_at (a := a) (fun y hy => h y (List.mem_cons_of_mem _ hy))]
    rfl
theorem splitc_none {c : UInt8} {l : List UInt8} (h : ∀ x ∈ l, x ≠ c) : splitc c l = [l] := by rw [split_cut, cutc_none h]
theorem splitc_at {c : UInt8} {a b : List UInt8} (h : ∀ x ∈ a, x ≠ c) : splitc c (a ++ c :: b) = a :: splitc c b := by rw [split_cut, cutc_at h]
theorem splitc_len (c : UInt8) (l : List UInt8) : (splitc c l).length ≤ l.length + 1 := by
  induction l with
  | nil => simp [splitc]
  | cons x l ih =>
    rw [splitc]
    split
    · simp; omega
    · split
      · simp
      · rename_i h t e; rw [e] at ih; simp at ih ⊢; omega
theorem splitc_mem {c : UInt8} : ∀ {l p : List UInt8}, p ∈ splitc c l → p.length ≤ l.length := by
  intro l
  induction l with
  | nil => intro p hp; simp [splitc] at hp; simp [hp]
  | cons x l ih =>
    intro p hp
    rw [splitc] at hp
    split at hp
    · rcases List.mem_cons.1 hp with rfl | hp
      · simp
      · have := ih hp; simp; omega
    · split at hp
      · simp at hp; simp [hp]
      · rename_i h t e
        rcases List.mem_cons.1 hp with rfl | hp
        · have := ih (p := h) (by rw [e]; simp); simp; omega
        · have := ih (p := p) (by rw [e]; exact List.mem_cons_of_mem _ hp); simp; omega

/-- The reference's walk over the string: the parts found so far, the rest from the last one on. -/
theorem split_hit {c : UInt8} {l : List UInt8} {f i : Nat} {done : List (List UInt8)} (hs : splitc c l = done ++ splitc c (l.drop f)) (hf : f ≤ i) (hno : ∀ j x, f ≤ j → j < i → l[j]? = some x → x ≠ c) (hc : l[i]? = some c) : splitc c l = (done ++ [(l.drop f).take (i - f)]) ++ splitc c (l.drop (i + 1)) := by
  obtain ⟨h1, e1⟩ := List.getElem?_eq_some_iff.1 hc
  have e : l.drop f = (l.drop f).take (i - f) ++ c :: l.drop (i + 1) := by
    conv => lhs; rw [← List.take_append_drop (i - f) (l.drop f)]
    rw [List.drop_drop, show f + (i - f) = i by omega, List.drop_eq_getElem_cons h1, e1]
  rw [hs, e, splitc_at]
  · rw [← e]; simp
  · intro x hx
    obtain ⟨k, hk, hke⟩ := List.mem_iff_getElem.1 hx
    simp at hk
    refine hno (f + k) x (by omega) (by omega) ?_
    rw [List.getElem_take, List.getElem_drop] at hke
    rw [List.getElem?_eq_getElem (by omega), hke]
theorem split_end {c : UInt8} {l : List UInt8} {f : Nat} {done : List (List UInt8)} (hs : splitc c l = done ++ splitc c (l.drop f)) (hno : ∀ j x, f ≤ j → j < l.length → l[j]? = some x → x ≠ c) : splitc c l = done ++ [l.drop f] := by
  rw [hs, splitc_none]
  intro x hx
  obtain ⟨k, hk, hke⟩ := List.mem_iff_getElem.1 hx
  simp at hk
  refine hno (f + k) x (by omega) (by omega) ?_
  rw [List.getElem_drop] at hke
  rw [List.getElem?_eq_getElem (by omega), hke]

/-- All the parts' numbers. -/
def allV : List (List UInt8) → Option (List Nat)
  | [] => some []
  | p :: r => match decV p, allV r with
    | some x, some xs => some (x :: xs)
    | _, _ => none
theorem par_split : ∀ (k : Nat) (l : List UInt8), par k l = if (splitc 46 l).length = k + 1 then allV (splitc 46 l) else none
  | 0, l => by
    rw [par, split_cut]
    cases cutc 46 l with
    | none => simp [allV]; cases decV l <;> rfl
    | some p =>
      have := split_ne 46 p.2
      have h0 : (splitc 46 p.2).length ≠ 0 := fun h => this (List.length_eq_zero_iff.1 h)
      simp [h0]
  | k + 1, l => by
    rw [par, split_cut]
    cases cutc 46 l with
    | none => simp
    | some p =>
      have ih := par_split k p.2
      simp only [List.length_cons, Nat.add_right_cancel_iff, ih]
      by_cases h : (splitc 46 p.2).length = k + 1
      · simp only [if_pos h, allV]
        cases decV p.1 <;> cases allV (splitc 46 p.2) <;> rfl
      · simp only [if_neg h]
        cases decV p.1 <;> rfl
theorem allV_length : ∀ {ps : List (List UInt8)} {xs : List Nat}, allV ps = some xs → xs.length = ps.length
  | [], xs, h => by rw [allV] at h; cases h; rfl
  | p :: r, xs, h => by
    rw [allV] at h
    split at h
    · rename_i hr
      cases h
      simp [allV_length hr]
    · cases h
theorem allV_snoc : ∀ {ps : List (List UInt8)} {p : List UInt8}, allV (ps ++ [p]) = match allV ps, decV p with
    | some xs, some x => some (xs ++ [x])
    | _, _ => none
  | [], p => by rw [List.nil_append, allV, allV]; cases decV p <;> rfl
  | q :: r, p => by
    rw [List.cons_append, allV, allV, allV_snoc (ps := r)]
    cases decV q <;> cases allV r <;> cases decV p <;> rfl
theorem allV_none : ∀ {ps : List (List UInt8)} {p : List UInt8}, p ∈ ps → decV p = none → allV ps = none
  | [], p, h, _ => by cases h
  | q :: r, p, h, e => by
    rw [allV]
    rcases List.mem_cons.1 h with rfl | h
    · rw [e]
    · rw [allV_none h e]
      cases decV q <;> rfl
theorem allV_mem : ∀ {ps : List (List UInt8)} {xs : List Nat}, allV ps = some xs → ∀ p ∈ ps, ∃ x, decV p = some x := by
  intro ps xs h p hp
  cases hd : decV p with
  | some x => exact ⟨x, rfl⟩
  | none => rw [allV_none hp hd] at h; cases h

/-- A part has all that the text has, but for the sign. -/
theorem split_has {c x : UInt8} (hx : x ≠ c) : ∀ {l : List UInt8}, x ∈ l → ∃ p ∈ splitc c l, x ∈ p := by
  intro l
  induction l with
  | nil => intro h; cases h
  | cons y l ih =>
    intro h
    rw [splitc]
    split
    · rename_i hy
      rcases List.mem_cons.1 h with rfl | h
      · exact absurd hy hx
      · obtain ⟨p, hp, hxp⟩ := ih h
        exact ⟨p, List.mem_cons_of_mem _ hp, hxp⟩
    · rcases List.mem_cons.1 h with rfl | h
      · cases hs : splitc c l with
        | nil => exact ⟨[x], by simp, by simp⟩
        | cons q t => exact ⟨x :: q, by simp, by simp⟩
      · obtain ⟨p, hp, hxp⟩ := ih h
        cases hs : splitc c l with
        | nil => rw [hs] at hp; cases hp
        | cons q t =>
          rw [hs] at hp
          rcases List.mem_cons.1 hp with rfl | hp
          · exact ⟨y :: p, by simp, List.mem_cons_of_mem _ hxp⟩
          · exact ⟨p, List.mem_cons_of_mem _ hp, hxp⟩
/-- Four numbers with dots have no colon. -/
theorem par_colon {k : Nat} {l : List UInt8} {xs : List Nat} (h : par k l = some xs) : l.contains 58 = false := by
  cases hc : l.contains 58 with
  | false => rfl
  | true =>
    have hm : (58 : UInt8) ∈ l := by simpa using hc
    rw [par_split] at h
    split at h
    · obtain ⟨p, hp, hxp⟩ := split_has (c := 46) (by decide) hm
      obtain ⟨x, hx⟩ := allV_mem h p hp
      rw [decV_decR] at hx
      have := decR_all hx 58 hxp
      revert this
      decide
    · cases h
end Go.Proofs.YtdnfmilihfkhmaaDoor
