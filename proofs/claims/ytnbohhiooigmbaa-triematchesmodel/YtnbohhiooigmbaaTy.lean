/-
  The order of prefixes, and a tree's list in that order; no walk.
  Conditions: none but that bytes are bytes.
-/
import Derived.Test.YtnbohhiooigmbaaPu
import Derived.Test.YtnbohhiooigmbaaCi
namespace Go.Proofs.Ytnbohhiooigmbaa
open Go.ChangeShapes Go.WideShapes Go.ChangeAt Go.RowKit
set_option linter.unusedVariables false

theorem cmpN_refl : ∀ l : List Nat, cmpN l l = 0
  | [] => rfl
  | a :: l => by rw [cmpN, if_neg (Nat.lt_irrefl _), if_neg (Nat.lt_irrefl _), cmpN_refl l]
theorem cmpN_anti : ∀ l m : List Nat, cmpN m l = -cmpN l m
  | [], [] => rfl
  | [], _ :: _ => rfl
  | _ :: _, [] => rfl
  | a :: l, b :: m => by
    rw [cmpN, cmpN]
    by_cases h1 : a < b
    · have h2 : ¬ b < a := by omega
      simp [h1, h2]
    · by_cases h2 : b < a
      · simp [h1, h2]
      · simp only [if_neg h1, if_neg h2]
        exact cmpN_anti l m
theorem cmpN_zero : ∀ {l m : List Nat}, cmpN l m = 0 → l = m
  | [], [], _ => rfl
  | [], _ :: _, h => by cases h
  | _ :: _, [], h => by cases h
  | a :: l, b :: m, h => by
    rw [cmpN] at h
    by_cases h1 : a < b
    · rw [if_pos h1] at h; cases h
    · rw [if_neg h1] at h
      by_cases h2 : b < a
      · rw [if_pos h2] at h; cases h
      · rw [if_neg h2] at h
        rw [cmpN_zero h, show a = b by omega]
theorem cmpN_three (l m : List Nat) : cmpN l m = -1 ∨ cmpN l m = 0 ∨ cmpN l m = 1 := by
  induction l generalizing m with
  | nil => cases m <;> simp [cmpN]
  | cons a l ih =>
    cases m with
    | nil => simp [cmpN]
    | cons b m =>
      rw [cmpN]
      split
      · exact .inl rfl
      · split
        · exact .inr (.inr rfl)
        · exact ih m
theorem cmpN_trans : ∀ {l m k : List Nat}, cmpN l m = -1 → cmpN m k = -1 → cmpN l k = -1
  | [], _, [], h1, h2 => by
    rename_i m
    cases m with
    | nil => cases h1
    | cons b m => cases h2
  | [], _, _ :: _, _, _ => rfl
  | _ :: _, [], _, h1, _ => by cases h1
  | _ :: _, _ :: _, [], _, h2 => by cases h2
  | a :: l, b :: m, c :: k, h1, h2 => by
    rw [cmpN] at h1 h2 ⊢
    by_cases hab : a < b
    · by_cases hbc : b < c
      · rw [if_pos (by omega)]
      · rw [if_neg hbc] at h2
        by_cases hcb : c < b
        · rw [if_pos hcb] at h2; cases h2
        · rw [if_pos (by omega)]
    · rw [if_neg hab] at h1
      by_cases hba : b < a
      · rw [if_pos hba] at h1; cases h1
      · rw [if_neg hba] at h1
        by_cases hbc : b < c
        · rw [if_pos (by omega)]
        · rw [if_neg hbc] at h2
          by_cases hcb : c < b
          · rw [if_pos hcb] at h2; cases h2
          · rw [if_neg hcb] at h2
            rw [if_neg (by omega), if_neg (by omega)]
            exact cmpN_trans h1 h2
/-- The order of two prefixes. -/
def cmpX (p q : Px) : Int := cmpP p.b q.b p.xs q.xs p.n q.n
def Lt (p q : Px) : Prop := cmpX p q = -1
theorem cmpX_self (p : Px) : cmpX p p = 0 := by
  unfold cmpX cmpP cmpA
  rw [if_pos rfl, cmpN_refl, if_pos rfl, cmpI, if_neg (Int.lt_irrefl _), if_neg (Int.lt_irrefl _)]
theorem cmpA_cases (b c : Bool) (xs ys : List Nat) : cmpA b c xs ys = -1 ∨ (b = c ∧ xs = ys ∧ cmpA b c xs ys = 0) ∨ cmpA b c xs ys = 1 := by
  unfold cmpA
  by_cases h : b = c
  · rw [if_pos h]
    rcases cmpN_three xs ys with h1 | h1 | h1
    · exact .inl h1
    · exact .inr (.inl ⟨h, cmpN_zero h1, h1⟩)
    · exact .inr (.inr h1)
  · rw [if_neg h]
    cases c
    · exact .inr (.inr rfl)
    · exact .inl rfl
theorem lt_iff {p q : Px} : Lt p q ↔ cmpA p.b q.b p.xs q.xs = -1 ∨ (p.b = q.b ∧ p.xs = q.xs ∧ p.n < q.n) := by
  unfold Lt cmpX cmpP
  rcases cmpA_cases p.b q.b p.xs q.xs with h | ⟨h1, h2, h⟩ | h
  · rw [h, if_neg (by decide)]; simp
  · rw [h, if_pos rfl]
    unfold cmpI
    by_cases hn : p.n < q.n
    · rw [if_pos hn]; simp [h1, h2, hn]
    · rw [if_neg hn]
      split <;> simp [hn]
  · rw [h, if_neg (by decide)]
    constructor
    · intro hc; cases hc
    · rintro (hc | ⟨h1, h2, _⟩)
      · cases hc
      · unfold cmpA at h
        rw [if_pos h1, h2, cmpN_refl] at h
        cases h
theorem cmpX_cases (p q : Px) : Lt p q ∨ p = q ∨ (Lt q p ∧ cmpX p q = 1) := by
  unfold Lt cmpX cmpP
  rcases cmpA_cases p.b q.b p.xs q.xs with h | ⟨h1, h2, h⟩ | h
  · exact .inl (by rw [h]; rfl)
  · rw [h, if_pos rfl]
    have h' : cmpA q.b p.b q.xs p.xs = 0 := by unfold cmpA; rw [if_pos h1.symm, h2, cmpN_refl]
    rw [h', if_pos rfl]
    unfold cmpI
    by_cases hn : p.n < q.n
    · exact .inl (by rw [if_pos hn])
    · by_cases hm : q.n < p.n
      · exact .inr (.inr ⟨by rw [if_pos hm], by rw [if_neg hn, if_pos hm]⟩)
      · exact .inr (.inl (Px.ext' h1 h2 (by omega)))
  · refine .inr (.inr ⟨?_, by rw [h]; rfl⟩)
    have h' : cmpA q.b p.b q.xs p.xs = -1 := by
      unfold cmpA at h ⊢
      by_cases hb : p.b = q.b
      · rw [if_pos hb] at h
        rw [if_pos hb.symm, cmpN_anti, h]
      · rw [if_neg hb] at h
        rw [if_neg (fun hc => hb hc.symm)]
        cases hq : q.b
        · rw [hq] at hb
          cases hp : p.b
          · rw [hp] at hb; exact absurd rfl hb
          · rfl
        · rw [hq] at h; cases h
    rw [h']; rfl
theorem lt_irr (p : Px) : ¬ Lt p p := by intro h; unfold Lt at h; rw [cmpX_self] at h; cases h
theorem lt_trans {p q r : Px} (h1 : Lt p q) (h2 : Lt q r) : Lt p r := by
  rw [lt_iff] at h1 h2 ⊢
  rcases h1 with h1 | ⟨a1, a2, a3⟩
  · rcases h2 with h2 | ⟨b1, b2, b3⟩
    · left
      unfold cmpA at h1 h2 ⊢
      by_cases e1 : p.b = q.b
      · rw [if_pos e1] at h1
        by_cases e2 : q.b = r.b
        · rw [if_pos e2] at h2
          rw [if_pos (e1.trans e2)]
          exact cmpN_trans h1 h2
        · rw [if_neg e2] at h2
          rw [if_neg (by rw [e1]; exact e2)]; exact h2
      · rw [if_neg e1] at h1
        by_cases e2 : q.b = r.b
        · rw [if_neg (by rw [← e2]; exact e1), ← e2]; exact h1
        · rw [if_neg e2] at h2
          cases hq : q.b
          · rw [hq] at h1; cases h1
          · cases hr : r.b
            · rw [hr] at h2; cases h2
            · rw [hq, hr] at e2; exact absurd rfl e2
    · left; rw [← b1, ← b2]; exact h1
  · rcases h2 with h2 | ⟨b1, b2, b3⟩
    · left; rw [a1, a2]; exact h2
    · right; exact ⟨a1.trans b1, a2.trans b2, by omega⟩
theorem lt_asymm {p q : Px} (h1 : Lt p q) (h2 : Lt q p) : False := lt_irr p (lt_trans h1 h2)

/-- Bytes that agree on their high bits compare by the next. -/
theorem byte_lt {x y m : Nat} (hx : x < 256) (hy : y < 256) (hm : m < 8) (h : ∀ j, m < j → j < 8 → x / 2 ^ j % 2 = y / 2 ^ j % 2) (h0 : x / 2 ^ m % 2 = 0) (h1 : y / 2 ^ m % 2 = 1) : x < y := by
  have hd : x / 2 ^ (m + 1) = y / 2 ^ (m + 1) := byte_ext (Nat.lt_of_le_of_lt (Nat.div_le_self _ _) hx) (Nat.lt_of_le_of_lt (Nat.div_le_self _ _) hy) fun j hj => by
    rw [Nat.div_div_eq_div_mul, Nat.div_div_eq_div_mul, ← Nat.pow_add]
    by_cases hk : m + 1 + j < 8
    · exact h _ (by omega) hk
    · have hp : 2 ^ 8 ≤ 2 ^ (m + 1 + j) := Nat.pow_le_pow_right (by decide) (by omega)
      rw [Nat.div_eq_of_lt (Nat.lt_of_lt_of_le hx hp), Nat.div_eq_of_lt (Nat.lt_of_lt_of_le hy hp)]
  have d1 := Nat.div_add_mod x (2 ^ (m + 1))
  have d2 := Nat.div_add_mod y (2 ^ (m + 1))
  rw [Nat.mod_pow_succ, h0] at d1
  rw [Nat.mod_pow_succ, h1] at d2
  rw [hd] at d1
  have hl : x % 2 ^ m < 2 ^ m := Nat.mod_lt _ (Nat.pow_pos (by decide))
  generalize 2 ^ (m + 1) * (y / 2 ^ (m + 1)) = q at d1 d2
  generalize x % 2 ^ m = a at d1 hl
  generalize y % 2 ^ m = c at d2
  omega
theorem cmpN_first : ∀ {xs ys : List Nat} {j x y : Nat}, (∀ i, i < j → xs[i]? = ys[i]?) → xs[j]? = some x → ys[j]? = some y → x < y → cmpN xs ys = -1
  | [], _, j, x, y, _, hx, _, _ => by cases hx
  | _ :: _, [], j, x, y, _, _, hy, _ => by cases hy
  | a :: l, b :: m, 0, x, y, _, hx, hy, hlt => by
    obtain rfl : a = x := by simpa using hx
    obtain rfl : b = y := by simpa using hy
    rw [cmpN, if_pos hlt]
  | a :: l, b :: m, j + 1, x, y, h, hx, hy, hlt => by
    obtain rfl : a = b := by simpa using h 0 (by omega)
    rw [cmpN, if_neg (Nat.lt_irrefl _), if_neg (Nat.lt_irrefl _)]
    exact cmpN_first (j := j) (fun i hi => by simpa using h (i + 1) (by omega)) (by simpa using hx) (by simpa using hy) hlt
/-- Bytes compare by the first bit in which they differ. -/
theorem cmpN_bits {xs ys : List Nat} (hx : Bytes xs) (hy : Bytes ys) {k : Nat} (hk : k < 128) (h : ∀ i, i < k → bitX xs i = bitX ys i) (h0 : bitX xs k = 0) (h1 : bitX ys k = 1) : cmpN xs ys = -1 := by
  have gx : ∀ i, i < 16 → xs[i]? = some (xs.getD i 0) := fun i hi => by
    rw [List.getD_eq_getElem?_getD, List.getElem?_eq_getElem (by rw [hx.1]; exact hi)]; rfl
  have gy : ∀ i, i < 16 → ys[i]? = some (ys.getD i 0) := fun i hi => by
    rw [List.getD_eq_getElem?_getD, List.getElem?_eq_getElem (by rw [hy.1]; exact hi)]; rfl
  refine cmpN_first (j := k / 8) (fun i hi => ?_) (gx _ (by omega)) (gy _ (by omega)) ?_
  · rw [gx i (by omega), gy i (by omega)]
    refine congrArg some (byte_ext (getD_lt hx.2 _) (getD_lt hy.2 _) fun m hm => ?_)
    have := h (8 * i + (7 - m)) (by omega)
    unfold bitX at this
    rw [show (8 * i + (7 - m)) / 8 = i by omega, show 7 - (8 * i + (7 - m)) % 8 = m by omega] at this
    exact this
  · refine byte_lt (m := 7 - k % 8) (getD_lt hx.2 _) (getD_lt hy.2 _) (by omega) (fun j hj hj8 => ?_) h0 h1
    have := h (8 * (k / 8) + (7 - j)) (by omega)
    unfold bitX at this
    rw [show (8 * (k / 8) + (7 - j)) / 8 = k / 8 by omega, show 7 - (8 * (k / 8) + (7 - j)) % 8 = j by omega] at this
    exact this
theorem first_bit (xs ys : List Nat) : ∀ m : Nat, (∀ i, i < m → bitX xs i = bitX ys i) ∨ ∃ k, k < m ∧ bitX xs k ≠ bitX ys k ∧ ∀ i, i < k → bitX xs i = bitX ys i
  | 0 => .inl fun i hi => absurd hi (Nat.not_lt_zero _)
  | m + 1 => by
    rcases first_bit xs ys m with h | ⟨k, h1, h2, h3⟩
    · by_cases he : bitX xs m = bitX ys m
      · exact .inl fun i hi => by
          by_cases him : i = m
          · rw [him]; exact he
          · exact h i (by omega)
      · exact .inr ⟨m, by omega, he, h⟩
    · exact .inr ⟨k, by omega, h2, h3⟩
/-- A prefix comes ahead of what it covers. -/
theorem lt_cov {q p : Px} (hq : okP q) (hp : okP p) (h : cov q p = true) (hn : q.n < p.n) : Lt q p := by
  rw [lt_iff]
  have hb := cov_b h
  rcases first_bit q.xs p.xs 128 with he | ⟨k, hk, hne, hag⟩
  · exact .inr ⟨hb, bits_ext hq.1 hp.1 he, hn⟩
  · left
    have hkn : q.n ≤ (k : Int) := by
      by_cases hc : (k : Int) < q.n
      · exact absurd (cov_bits h hk hc) hne
      · omega
    have h0 := hq.zero hk hkn
    have h1 : bitX p.xs k = 1 := by
      rcases bit_two p.xs k with h2 | h2
      · rw [h0, h2] at hne; exact absurd rfl hne
      · exact h2
    unfold cmpA
    rw [if_pos hb]
    exact cmpN_bits hq.1 hp.1 hk hag h0 h1
/-- What lies on the first side comes ahead of what lies on the second. -/
theorem lt_sides {q p r : Px} (hq : okP q) (hp : okP p) (hr : okP r) (h1 : cov q p = true) (h2 : cov q r = true) (n1 : q.n < p.n) (b1 : bitP p.xs q.n = false) (b2 : bitP r.xs q.n = true) : Lt p r := by
  rw [lt_iff]
  left
  have h0 := hq.parts.2.1
  have hl := ok_le hp
  have hb : p.b = r.b := (cov_b h1).symm.trans (cov_b h2)
  unfold cmpA
  rw [if_pos hb]
  refine cmpN_bits (k := q.n.toNat) hp.1 hr.1 (by omega) (fun i hi => ?_) ?_ (of_decide_eq_true b2)
  · rw [← cov_bits h1 (i := i) (by omega) (by omega), ← cov_bits h2 (i := i) (by omega) (by omega)]
  · have := of_decide_eq_false b1
    rcases bit_two p.xs q.n.toNat with h | h
    · exact h
    · exact absurd h this
/-- In order. -/
def Srt (L : List (Px × Value)) : Prop := L.Pairwise fun a b => Lt a.1 b.1
theorem toL_srt : ∀ {t : Tr}, Wf t → Srt t.toL
  | .nil, _ => List.Pairwise.nil
  | .node g q v l r, hw => by
    have hok := fun {t : Tr} (ht : Wf t) {e : Px × Value} (he : e ∈ t.toL) => ht.ok _ (toL_all he)
    refine List.pairwise_append.2 ⟨?_, List.pairwise_append.2 ⟨toL_srt hw.2.2.2.1, toL_srt hw.2.2.2.2, fun a ha b hb => ?_⟩, fun a ha b hb => ?_⟩
    · cases v with
      | none => exact List.Pairwise.nil
      | some u => obtain ⟨vb, x⟩ := u; exact List.pairwise_singleton _ _
    · obtain ⟨a1, a2, a3⟩ := hw.2.1 _ (toL_all ha)
      obtain ⟨b1, b2, b3⟩ := hw.2.2.1 _ (toL_all hb)
      exact lt_sides hw.1 (hok hw.2.2.2.1 ha) (hok hw.2.2.2.2 hb) a1 b1 a2 a3 b3
    · rw [ent_key ha]
      rcases List.mem_append.1 hb with hb | hb
      · obtain ⟨b1, b2, b3⟩ := hw.2.1 _ (toL_all hb)
        exact lt_cov hw.1 (hok hw.2.2.2.1 hb) b1 b2
      · obtain ⟨b1, b2, b3⟩ := hw.2.2.1 _ (toL_all hb)
        exact lt_cov hw.1 (hok hw.2.2.2.2 hb) b1 b2
/-- Both families' lists behind one another. -/
theorem both_srt {t4 t6 : Tr} (h4 : Wf t4) (h6 : Wf t6) (f4 : ∀ q ∈ t4.all, q.b = false) (f6 : ∀ q ∈ t6.all, q.b = true) : Srt (t4.toL ++ t6.toL) :=
  List.pairwise_append.2 ⟨toL_srt h4, toL_srt h6, fun a ha b hb => by
    rw [lt_iff]
    left
    unfold cmpA
    rw [f4 _ (toL_all ha), f6 _ (toL_all hb)]
    rfl⟩
/-- Two lists in order with the same members are one. -/
theorem srt_ext : ∀ {A B : List (Px × Value)}, Srt A → Srt B → (∀ e, e ∈ A ↔ e ∈ B) → A = B
  | [], [], _, _, _ => rfl
  | [], b :: B, _, _, h => by have := (h b).2 List.mem_cons_self; cases this
  | a :: A, [], _, _, h => by have := (h a).1 List.mem_cons_self; cases this
  | a :: A, b :: B, hA, hB, h => by
    obtain ⟨ha, hA'⟩ := List.pairwise_cons.1 hA
    obtain ⟨hb, hB'⟩ := List.pairwise_cons.1 hB
    have hab : a = b := by
      rcases List.mem_cons.1 ((h a).1 List.mem_cons_self) with h1 | h1
      · exact h1
      · rcases List.mem_cons.1 ((h b).2 List.mem_cons_self) with h2 | h2
        · exact h2.symm
        · exact (lt_asymm (hb a h1) (ha b h2)).elim
    subst hab
    rw [srt_ext hA' hB' fun e => ?_]
    constructor
    · intro he
      rcases List.mem_cons.1 ((h e).1 (List.mem_cons_of_mem _ he)) with h1 | h1
      · subst h1; exact absurd (ha e he) (lt_irr _)
      · exact h1
    · intro he
      rcases List.mem_cons.1 ((h e).2 (List.mem_cons_of_mem _ he)) with h1 | h1
      · subst h1; exact absurd (hb e he) (lt_irr _)
      · exact h1
/-- The list with p's value put in or replaced. -/
def putL (p : Px) (x : Value) : List (Px × Value) → List (Px × Value)
  | [] => [(p, x)]
  | e :: L => if cmpX e.1 p = -1 then e :: putL p x L else if e.1 = p then (p, x) :: L else (p, x) :: e :: L
theorem putL_mem {p : Px} {x : Value} : ∀ {L : List (Px × Value)} {e : Px × Value}, Srt L → (e ∈ putL p x L ↔ e = (p, x) ∨ (e.1 ≠ p ∧ e ∈ L))
  | [], e, _ => by simp [putL]
  | a :: L, e, hs => by
    obtain ⟨ha, hL⟩ := List.pairwise_cons.1 hs
    have hbig : Lt p a.1 ∨ a.1 = p → ∀ e ∈ L, e.1 ≠ p := fun hp e he hc => by
      have h1 := ha e he
      rw [hc] at h1
      rcases hp with hp | hp
      · exact lt_asymm h1 hp
      · rw [hp] at h1; exact lt_irr _ h1
    unfold putL
    by_cases h1 : cmpX a.1 p = -1
    · rw [if_pos h1, List.mem_cons, List.mem_cons, putL_mem hL]
      constructor
      · rintro (h | h | h)
        · exact .inr ⟨by rw [h]; intro hc; rw [hc] at h1; exact lt_irr _ h1, .inl h⟩
        · exact .inl h
        · exact .inr ⟨h.1, .inr h.2⟩
      · rintro (h | ⟨h0, h | h⟩)
        · exact .inr (.inl h)
        · exact .inl h
        · exact .inr (.inr ⟨h0, h⟩)
    · rw [if_neg h1]
      by_cases h2 : a.1 = p
      · rw [if_pos h2, List.mem_cons, List.mem_cons]
        constructor
        · rintro (h | h)
          · exact .inl h
          · exact .inr ⟨hbig (.inr h2) e h, .inr h⟩
        · rintro (h | ⟨h0, h | h⟩)
          · exact .inl h
          · rw [h] at h0; exact absurd h2 h0
          · exact .inr h
      · rw [if_neg h2]
        have hlt : Lt p a.1 := by
          rcases cmpX_cases a.1 p with h | h | h
          · exact absurd h h1
          · exact absurd h h2
          · exact h.1
        rw [List.mem_cons, List.mem_cons]
        constructor
        · rintro (h | h | h)
          · exact .inl h
          · exact .inr ⟨by rw [h]; exact h2, .inl h⟩
          · exact .inr ⟨hbig (.inl hlt) e h, .inr h⟩
        · rintro (h | ⟨h0, h⟩)
          · exact .inl h
          · exact .inr h
theorem putL_srt {p : Px} {x : Value} : ∀ {L : List (Px × Value)}, Srt L → Srt (putL p x L)
  | [], _ => List.pairwise_singleton _ _
  | a :: L, hs => by
    obtain ⟨ha, hL⟩ := List.pairwise_cons.1 hs
    unfold putL
    by_cases h1 : cmpX a.1 p = -1
    · rw [if_pos h1]
      refine List.pairwise_cons.2 ⟨fun e he => ?_, putL_srt hL⟩
      rcases (putL_mem hL).1 he with h | h
      · rw [h]; exact h1
      · exact ha e h.2
    · rw [if_neg h1]
      by_cases h2 : a.1 = p
      · rw [if_pos h2]
        exact List.pairwise_cons.2 ⟨fun e he => by have := ha e he; rw [h2] at this; exact this, hL⟩
      · rw [if_neg h2]
        have hlt : Lt p a.1 := by
          rcases cmpX_cases a.1 p with h | h | h
          · exact absurd h h1
          · exact absurd h h2
          · exact h.1
        refine List.pairwise_cons.2 ⟨fun e he => ?_, hs⟩
        rcases List.mem_cons.1 he with h | h
        · rw [h]; exact hlt
        · exact lt_trans hlt (ha e h)
/-- The value of a key. -/
def valL (L : List (Px × Value)) (p : Px) : Option Value := (L.find? fun e => decide (e.1 = p)).map (·.2)
theorem valL_iff {L : List (Px × Value)} (hs : Srt L) {p : Px} {x : Value} : valL L p = some x ↔ (p, x) ∈ L := by
  induction L with
  | nil => simp [valL]
  | cons a L ih =>
    obtain ⟨ha, hL⟩ := List.pairwise_cons.1 hs
    unfold valL
    rw [List.find?_cons]
    by_cases h : a.1 = p
    · rw [decide_eq_true h]
      constructor
      · intro h1
        obtain rfl : a.2 = x := by simpa using h1
        rw [← h]; exact List.mem_cons_self
      · intro h1
        rcases List.mem_cons.1 h1 with h1 | h1
        · rw [← h1]; rfl
        · have := ha _ h1; rw [h] at this; exact absurd this (lt_irr _)
    · rw [decide_eq_false h]
      have ih' := ih hL
      unfold valL at ih'
      rw [ih', List.mem_cons]
      constructor
      · exact .inr
      · rintro (h1 | h1)
        · rw [← h1] at h; exact absurd rfl h
        · exact h1
theorem valL_none {L : List (Px × Value)} {p : Px} : valL L p = none ↔ ∀ e ∈ L, e.1 ≠ p := by
  unfold valL
  rw [Option.map_eq_none_iff, List.find?_eq_none]
  simp
/-- Those that hold an address lie in one another: the lengths grow. -/
theorem has_grow {L : List (Px × Value)} (hs : Srt L) (hok : ∀ e ∈ L, okP e.1) {c : Bool} {ys : List Nat} : (L.filter fun e => has e.1 c ys).Pairwise fun a b => a.1.n < b.1.n := by
  have h1 : (L.filter fun e => has e.1 c ys).Pairwise fun a b => Lt a.1 b.1 := List.Pairwise.filter _ hs
  refine List.Pairwise.imp_of_mem (fun {a b} ha hb hlt => ?_) h1
  obtain ⟨ha1, ha2⟩ := List.mem_filter.1 ha
  obtain ⟨hb1, hb2⟩ := List.mem_filter.1 hb
  have hoa := hok a ha1
  have hob := hok b hb1
  rcases nested (n := a.1.n) (m := b.1.n) ha2 hb2 with h | h
  · refine cov_lt hoa hob h fun he => ?_
    rw [he] at hlt
    exact lt_irr _ hlt
  · have hbn : cov b.1 a.1 = true := h
    by_cases he : b.1 = a.1
    · rw [he] at hlt; exact absurd hlt (lt_irr _)
    · exact (lt_asymm hlt (lt_cov hob hoa hbn (cov_lt hob hoa hbn he))).elim
end Go.Proofs.Ytnbohhiooigmbaa
