/-
  What the reference's Format gives, that it is what Format gives, and that Parse gives the address back; no walk.
  Conditions: as each theorem says.
  Parse gives the address back whose text Format has written; what the decimal text of a number is read as; no walk.
  Conditions: as each theorem says.
-/
import Derived.Test.YtnadendhboiliaaGreatA
import Derived.Test.YtnadendhboiliaaGreatH3
import Derived.Test.YtnadendhboiliaaGreatP
namespace Go.Proofs.YtnadendhboiliaaGreat
open Go.ChangeShapes Go.WideShapes Go.ChangeAt Go.RowKit
set_option linter.unusedVariables false

/-- Zero or one. -/
def norm (g : Nat) : Nat := if g = 0 then 0 else 1
theorem norm_zero (g : Nat) : norm g = 0 ↔ g = 0 := by unfold norm; split <;> omega
theorem scanZ_norm : ∀ (gs : List Nat) (i s l r : Nat), scanZ (gs.map norm) i s l r = scanZ gs i s l r
  | [], i, s, l, r => rfl
  | g :: gs, i, s, l, r => by
    have h := norm_zero g
    simp only [List.map_cons, scanZ]
    by_cases hg : g = 0
    · subst hg
      have hn : norm 0 = 0 := rfl
      simp only [hn, ne_eq, not_true_eq_false, if_false, scanZ_norm gs]
    · have hn : ¬ norm g = 0 := fun e => hg (h.1 e)
      simp only [hn, hg, ne_eq, not_false_eq_true, if_true, scanZ_norm gs]

/-- How many zeros stand in front. -/
def zrun : List Nat → Nat
  | [] => 0
  | g :: r => if g = 0 then zrun r + 1 else 0
theorem zrun_norm : ∀ gs : List Nat, zrun (gs.map norm) = zrun gs
  | [] => rfl
  | g :: r => by
    have h := norm_zero g
    rw [List.map_cons, zrun, zrun]
    by_cases hg : g = 0
    · rw [if_pos (h.2 hg), if_pos hg, zrun_norm]
    · rw [if_neg (fun e => hg (h.1 e)), if_neg hg]
theorem zrun_le : ∀ gs : List Nat, zrun gs ≤ gs.length
  | [] => Nat.le_refl _
  | g :: r => by
    have := zrun_le r
    rw [zrun]
    split <;> simp <;> omega
theorem zrun_hit : ∀ {gs : List Nat} {n : Nat}, (∀ j, j < n → gs[j]? = some 0) → (∀ x, gs[n]? = some x → x ≠ 0) → zrun gs = n
  | [], n, h0, h1 => by
    cases n with
    | zero => rfl
    | succ n => have := h0 0 (by omega); simp at this
  | g :: r, n, h0, h1 => by
    rw [zrun]
    cases n with
    | zero => rw [if_neg (h1 g rfl)]
    | succ n =>
      have := h0 0 (by omega)
      rw [List.getElem?_cons_zero] at this
      cases this
      rw [if_pos rfl, zrun_hit (gs := r) (n := n) (fun j hj => by have := h0 (j + 1) (by omega); simpa using this) (fun x hx => h1 x (by simpa using hx))]

/-- The reference's choice, when the first i places have been looked at. -/
def bestZ (gs : List Nat) : Nat → Int × Nat
  | 0 => (-1, 1)
  | i + 1 => if (bestZ gs i).2 < zrun (gs.drop i) then ((i : Int), zrun (gs.drop i)) else bestZ gs i
theorem bestZ_norm (gs : List Nat) : ∀ i, bestZ (gs.map norm) i = bestZ gs i
  | 0 => rfl
  | i + 1 => by rw [bestZ, bestZ, bestZ_norm gs i, ← List.map_drop, zrun_norm]

def eightB (a b c d e f g h : Bool) : List Nat := [a.toNat, b.toNat, c.toNat, d.toNat, e.toNat, f.toNat, g.toNat, h.toNat]
theorem norm_bool (g : Nat) : norm g = (decide (g ≠ 0)).toNat := by unfold norm; split <;> simp_all
theorem norm_eight {gs : List Nat} (h : gs.length = 8) : ∃ a b c d e f g h, gs.map norm = eightB a b c d e f g h := by
  match gs, h with
  | [a, b, c, d, e, f, g, h], _ => exact ⟨_, _, _, _, _, _, _, _, by simp only [List.map_cons, List.map_nil, norm_bool]; rfl⟩

set_option maxRecDepth 100000 in
theorem best_all : ∀ a b c d e f g h : Bool, bestZ (eightB a b c d e f g h) 8 = (if (scanZ (eightB a b c d e f g h) 0 0 0 0).2 < 2 then (-1, 1) else (((scanZ (eightB a b c d e f g h) 0 0 0 0).1 : Int), (scanZ (eightB a b c d e f g h) 0 0 0 0).2)) := by decide +kernel
theorem best_scan {gs : List Nat} (h : gs.length = 8) : bestZ gs 8 = (if (scanZ gs 0 0 0 0).2 < 2 then (-1, 1) else (((scanZ gs 0 0 0 0).1 : Int), (scanZ gs 0 0 0 0).2)) := by
  obtain ⟨a, b, c, d, e, f, g, i, hn⟩ := norm_eight h
  rw [← bestZ_norm, ← scanZ_norm, hn]
  exact best_all a b c d e f g i
set_option maxRecDepth 100000 in
theorem zero_all : ∀ a b c d e f g h : Bool, (eightB a b c d e f g h) = (eightB a b c d e f g h).take (scanZ (eightB a b c d e f g h) 0 0 0 0).1 ++ (List.replicate (scanZ (eightB a b c d e f g h) 0 0 0 0).2 0 ++ (eightB a b c d e f g h).drop ((scanZ (eightB a b c d e f g h) 0 0 0 0).1 + (scanZ (eightB a b c d e f g h) 0 0 0 0).2)) ∧ (scanZ (eightB a b c d e f g h) 0 0 0 0).1 + (scanZ (eightB a b c d e f g h) 0 0 0 0).2 ≤ 8 := by decide +kernel
theorem zero_scan {gs : List Nat} (h : gs.length = 8) : gs = gs.take (scanZ gs 0 0 0 0).1 ++ (List.replicate (scanZ gs 0 0 0 0).2 0 ++ gs.drop ((scanZ gs 0 0 0 0).1 + (scanZ gs 0 0 0 0).2)) ∧ (scanZ gs 0 0 0 0).1 + (scanZ gs 0 0 0 0).2 ≤ 8 := by
  obtain ⟨a, b, c, d, e, f, g, i, hn⟩ := norm_eight h
  have h1 := zero_all a b c d e f g i
  rw [← hn, scanZ_norm] at h1
  generalize (scanZ gs 0 0 0 0).1 = s at h1 ⊢
  generalize (scanZ gs 0 0 0 0).2 = l at h1 ⊢
  refine ⟨?_, h1.2⟩
  have hz : (gs.drop s).take l = List.replicate l 0 := by
    have h2 : ((gs.map norm).drop s).take l = List.replicate l 0 := by
      have hs : ((gs.map norm).take s).length = s := by rw [List.length_take, List.length_map, h]; omega
      conv => lhs; rw [h1.1]
      rw [List.drop_append_of_le_length (by omega), List.drop_of_length_le (by omega), List.nil_append, List.take_append_of_le_length (by simp), List.take_of_length_le (by simp)]
    rw [← List.map_drop, ← List.map_take] at h2
    refine List.eq_replicate_iff.2 ⟨?_, ?_⟩
    · rw [List.length_take, List.length_drop, h, Nat.min_eq_left (by omega)]
    · intro x hx
      have h3 : norm x ∈ List.replicate l 0 := by rw [← h2]; exact List.mem_map_of_mem hx
      exact (norm_zero x).1 (List.eq_of_mem_replicate h3)
  rw [← hz, ← List.drop_drop]
  rw [List.take_append_drop, List.take_append_drop]

/-! ### the text, piece by piece -/

/-- A group behind what is there. -/
def tx (s x : List Nat) : List Nat := if s = [] ∨ s.getLast? = some 58 then s ++ x else s ++ (58 :: x)
theorem hexD_ne {d : Nat} (h : d < 16) : hexD d ≠ 58 ∧ hexD d ≠ 46 := by unfold hexD; split <;> omega
theorem hexN_ne : ∀ (n : Nat), ∀ x ∈ hexN n, x ≠ 58 ∧ x ≠ 46 ∧ x < 256 := by
  intro n
  induction n using Nat.strongRecOn with
  | ind n ih =>
    by_cases h : n < 16
    · rw [hexN_small h]
      intro x hx
      obtain rfl := List.mem_singleton.1 hx
      exact ⟨(hexD_ne h).1, (hexD_ne h).2, hexD_lt h⟩
    · rw [hexN_big (by omega)]
      intro x hx
      rcases List.mem_append.1 hx with hx | hx
      · exact ih (n / 16) (by omega) x hx
      · obtain rfl := List.mem_singleton.1 hx
        exact ⟨(hexD_ne (by omega)).1, (hexD_ne (by omega)).2, hexD_lt (by omega)⟩
theorem hexN_nil (n : Nat) : hexN n ≠ [] := by
  by_cases h : n < 16
  · rw [hexN_small h]; simp
  · rw [hexN_big (by omega)]; simp
theorem joinN_snoc (sep : Nat) : ∀ (xs : List (List Nat)) (x : List Nat), xs ≠ [] → joinN sep (xs ++ [x]) = joinN sep xs ++ sep :: x
  | [], x, h => absurd rfl h
  | [y], x, _ => rfl
  | y :: z :: r, x, _ => by
    have ih := joinN_snoc sep (z :: r) x (by simp)
    rw [List.cons_append] at ih
    rw [List.cons_append, List.cons_append, joinN, ih, joinN]
    simp
theorem joinN_last (sep : Nat) : ∀ (xs : List (List Nat)) (x : List Nat), x ≠ [] → (joinN sep (xs ++ [x])).getLast? = x.getLast? := by
  intro xs x hx
  by_cases h : xs = []
  · subst h; rfl
  · rw [joinN_snoc sep xs x h]
    cases x with
    | nil => exact absurd rfl hx
    | cons a r => simp [List.getLast?_append, List.getLast?_cons]
theorem joinN_nil (sep : Nat) (xs : List (List Nat)) (h : ∀ x ∈ xs, x ≠ []) : joinN sep xs = [] ↔ xs = [] := by
  match xs with
  | [] => simp [joinN]
  | [x] => simpa [joinN] using h x
  | x :: y :: r => simp [joinN]

/-- One more group behind some. -/
theorem tx_more (pre : List Nat) (hp : pre = [] ∨ pre.getLast? = some 58) (gs : List Nat) (g : Nat) : tx (pre ++ joinN 58 (gs.map hexN)) (hexN g) = pre ++ joinN 58 ((gs ++ [g]).map hexN) := by
  rcases List.eq_nil_or_concat gs with rfl | ⟨hs, k, hk0⟩
  · rw [tx, if_pos]
    · simp [joinN]
    · rcases hp with hp | hp
      · exact .inl (by simp [hp, joinN])
      · exact .inr (by simpa [joinN] using hp)
  · rw [List.concat_eq_append] at hk0
    subst hk0
    have hl : (joinN 58 ((hs ++ [k]).map hexN)).getLast? = (hexN k).getLast? := by
      rw [List.map_append, List.map_singleton]; exact joinN_last 58 _ _ (hexN_nil k)
    have hk : ∃ x, (hexN k).getLast? = some x ∧ x ≠ 58 := by
      cases hh : (hexN k).getLast? with
      | none => exact absurd (List.getLast?_eq_none_iff.1 hh) (hexN_nil k)
      | some x => exact ⟨x, rfl, (hexN_ne k x (List.mem_of_getLast? hh)).1⟩
    obtain ⟨x, hx, hx58⟩ := hk
    have hne : joinN 58 ((hs ++ [k]).map hexN) ≠ [] := by
      intro e; rw [e, hx] at hl; cases hl
    rw [tx, if_neg]
    · rw [List.map_append (l₂ := [g]), List.map_singleton, joinN_snoc _ _ _ (by simp), List.append_assoc]
    · rintro (e | e)
      · exact hne (List.append_eq_nil_iff.1 e).2
      · rw [List.getLast?_append, hl, hx] at e
        simp at e
        exact hx58 e

/-- The reference's text when the groups ahead of place i have been written; the run of zeros is taken at once. -/
def txtAt (gs : List Nat) (s l i : Nat) : List Nat := if i ≤ s then joinN 58 ((gs.take i).map hexN) else (joinN 58 ((gs.take s).map hexN) ++ [58, 58]) ++ joinN 58 (((gs.drop (s + l)).take (i - (s + l))).map hexN)
theorem txtAt_zero (gs : List Nat) (s l : Nat) : txtAt gs s l 0 = [] := by rw [txtAt, if_pos (Nat.zero_le _)]; rfl
theorem txtAt_low {gs : List Nat} {s l i g : Nat} (h : i < s) (hg : gs[i]? = some g) : tx (txtAt gs s l i) (hexN g) = txtAt gs s l (i + 1) := by
  have h1 := tx_more [] (.inl rfl) (gs.take i) g
  rw [List.nil_append, List.nil_append] at h1
  rw [txtAt, if_pos (by omega), txtAt, if_pos (by omega), h1, List.take_add_one, hg]
  rfl
theorem txtAt_run (gs : List Nat) (s l : Nat) (hl : 1 ≤ l) : txtAt gs s l s ++ [58, 58] = txtAt gs s l (s + l) := by
  rw [txtAt, if_pos (Nat.le_refl _), txtAt, if_neg (by omega), Nat.sub_self]
  simp [joinN]
theorem txtAt_high {gs : List Nat} {s l i g : Nat} (hl : 1 ≤ l) (h : s + l ≤ i) (hg : gs[i]? = some g) : tx (txtAt gs s l i) (hexN g) = txtAt gs s l (i + 1) := by
  rw [txtAt, if_neg (by omega), txtAt, if_neg (by omega), tx_more _ (.inr (by simp)), show i + 1 - (s + l) = (i - (s + l)) + 1 by omega, List.take_add_one, List.getElem?_drop, show s + l + (i - (s + l)) = i by omega, hg]
  rfl
theorem txtAt_end {gs : List Nat} (h8 : gs.length = 8) (s l : Nat) (h : s + l ≤ 8) (hl : 1 ≤ l) : txtAt gs s l 8 = joinN 58 ((gs.take s).map hexN) ++ [58, 58] ++ joinN 58 ((gs.drop (s + l)).map hexN) := by
  have e : (gs.drop (s + l)).take (8 - (s + l)) = gs.drop (s + l) := List.take_of_length_le (by rw [List.length_drop]; omega)
  rw [txtAt, if_neg (by omega), e]
theorem txtAt_plain {gs : List Nat} (h8 : gs.length = 8) (s l : Nat) (h : 8 ≤ s) : txtAt gs s l 8 = joinN 58 (gs.map hexN) := by
  rw [txtAt, if_pos h, List.take_of_length_le (by omega)]
end Go.Proofs.YtnadendhboiliaaGreat
namespace Go.Proofs.YtnadendhboiliaaGreat
open Go.ChangeShapes Go.WideShapes Go.ChangeAt Go.RowKit
set_option linter.unusedVariables false

/-- Numbers as bytes. -/
def oct8 (t : List Nat) : List UInt8 := t.map UInt8.ofNat
theorem str_oct (t : List Nat) : str t = bs (oct8 t) := rfl
theorem oct8_append (s t : List Nat) : oct8 (s ++ t) = oct8 s ++ oct8 t := by simp [oct8]
theorem oct8_length (t : List Nat) : (oct8 t).length = t.length := by simp [oct8]
theorem ofNat_ne {x c : Nat} (hx : x < 256) (hc : c < 256) (h : x ≠ c) : UInt8.ofNat x ≠ UInt8.ofNat c := by
  intro e
  have := congrArg UInt8.toNat e
  simp [Nat.mod_eq_of_lt hx, Nat.mod_eq_of_lt hc] at this
  exact h this
theorem oct8_ne {t : List Nat} {c : Nat} (hc : c < 256) (h : ∀ y ∈ t, y ≠ c ∧ y < 256) : ∀ x ∈ oct8 t, x ≠ UInt8.ofNat c := by
  intro x hx
  obtain ⟨y, hy, rfl⟩ := List.mem_map.1 hx
  exact ofNat_ne (h y hy).2 hc (h y hy).1

theorem splitc_join {sep : Nat} (hs : sep < 256) : ∀ (xs : List (List Nat)), xs ≠ [] → (∀ x ∈ xs, ∀ y ∈ x, y ≠ sep ∧ y < 256) → splitc (UInt8.ofNat sep) (oct8 (joinN sep xs)) = xs.map oct8
  | [], h, _ => absurd rfl h
  | [x], _, hx => by rw [joinN, splitc_none (oct8_ne hs (hx x (by simp)))]; rfl
  | x :: y :: r, _, hx => by
    have ih := splitc_join hs (y :: r) (by simp) (fun z hz => hx z (List.mem_cons_of_mem _ hz))
    rw [joinN, oct8_append, show oct8 (sep :: joinN sep (y :: r)) = UInt8.ofNat sep :: oct8 (joinN sep (y :: r)) from rfl, splitc_at (oct8_ne hs (hx x (by simp))), ih]
    rfl

/-! ### decimal -/
theorem digGo_snoc : ∀ (l : List UInt8) (acc : Nat) (c : UInt8), digGo acc (l ++ [c]) = match digGo acc l with
    | some v => if 48 ≤ c.toNat ∧ c.toNat ≤ 57 then some (10 * v + (c.toNat - 48)) else none
    | none => none
  | [], acc, c => by simp [digGo]
  | x :: l, acc, c => by
    rw [List.cons_append, digGo, digGo]
    split
    · exact digGo_snoc l _ c
    · rfl
theorem digGo_decN (n : Nat) : digGo 0 (oct8 (decN n)) = some n := by
  induction n using Nat.strongRecOn with
  | ind n ih =>
    have hd : ∀ d, d < 10 → (UInt8.ofNat (48 + d)).toNat = 48 + d := fun d h => by simp; omega
    by_cases h : n < 10
    · rw [decN_small h]
      show digGo 0 [UInt8.ofNat (48 + n)] = _
      rw [digGo, hd n h, if_pos (by omega), digGo]
      congr 1; omega
    · rw [decN_big (by omega), oct8_append, show oct8 [48 + n % 10] = [UInt8.ofNat (48 + n % 10)] from rfl, digGo_snoc, ih (n / 10) (by omega)]
      show (if _ then _ else _) = _
      rw [hd _ (by omega), if_pos (by omega)]
      congr 1; omega
theorem decN_nil (n : Nat) : decN n ≠ [] := by
  by_cases h : n < 10
  · rw [decN_small h]; simp
  · rw [decN_big (by omega)]; simp
theorem decN_digit (n : Nat) : ∀ x ∈ decN n, 48 ≤ x ∧ x ≤ 57 := by
  induction n using Nat.strongRecOn with
  | ind n ih =>
    by_cases h : n < 10
    · rw [decN_small h]; intro x hx; obtain rfl := List.mem_singleton.1 hx; omega
    · rw [decN_big (by omega)]
      intro x hx
      rcases List.mem_append.1 hx with hx | hx
      · exact ih (n / 10) (by omega) x hx
      · obtain rfl := List.mem_singleton.1 hx; omega
theorem decN_head {n : Nat} (h1 : 1 ≤ n) : ∃ x r, decN n = x :: r ∧ 49 ≤ x ∧ x ≤ 57 := by
  induction n using Nat.strongRecOn with
  | ind n ih =>
    by_cases h : n < 10
    · exact ⟨48 + n, [], decN_small h, by omega, by omega⟩
    · obtain ⟨x, r, e, h2, h3⟩ := ih (n / 10) (by omega) (by omega)
      exact ⟨x, r ++ [48 + n % 10], by rw [decN_big (by omega), e]; rfl, h2, h3⟩
theorem decR_decN {M n : Nat} (hM : M < 1000000) (h : n ≤ M) : decR M (oct8 (decN n)) = some n := by
  rw [decR_lim hM, if_neg, limGo_dig M _ 0 (by omega), digGo_decN]
  · show (if n ≤ M then some n else none) = _
    rw [if_pos h]
  · rintro (e | ⟨e, e2⟩)
    · have := congrArg List.length e
      rw [oct8_length] at this
      exact decN_nil n (List.length_eq_zero_iff.1 (by simpa using this))
    · by_cases h0 : n = 0
      · subst h0
        rw [decN_small (by omega)] at e2
        simp [oct8] at e2
      · obtain ⟨x, r, e3, h2, h3⟩ := decN_head (n := n) (by omega)
        rw [e3] at e
        have h4 : UInt8.ofNat x = 48 := Option.some.inj e
        exact ofNat_ne (x := x) (c := 48) (by omega) (by omega) (by omega) h4
theorem decV_decN {n : Nat} (h : n < 256) : decV (oct8 (decN n)) = some n := by
  rw [decV_decR]; exact decR_decN (by omega) (by omega)
theorem allV_map : ∀ xs : List Nat, (∀ x ∈ xs, x < 256) → allV ((xs.map decN).map oct8) = some xs
  | [], _ => rfl
  | x :: r, h => by
    rw [List.map_cons, List.map_cons, allV, decV_decN (h x (by simp)), allV_map r (fun y hy => h y (List.mem_cons_of_mem _ hy))]
theorem par_fmt4 {xs : List Nat} (hx : Bytes xs) : par 3 (oct8 (fmt4 xs)) = some (xs.take 4) := by
  have hne : (xs.take 4).map decN ≠ [] := by
    intro e
    have := congrArg List.length e
    rw [List.length_map, List.length_take, hx.1] at this
    simp at this
  have hb : ∀ x ∈ xs.take 4, x < 256 := fun x h => hx.2 x (List.mem_of_mem_take h)
  have hs : splitc 46 (oct8 (fmt4 xs)) = ((xs.take 4).map decN).map oct8 := by
    refine splitc_join (sep := 46) (by omega) _ hne ?_
    intro x hx' y hy
    obtain ⟨n, _, rfl⟩ := List.mem_map.1 hx'
    have := decN_digit n y hy
    omega
  rw [par_split, hs, if_pos (by rw [List.length_map, List.length_map, List.length_take, hx.1]; rfl), allV_map _ hb]

/-! ### hexadecimal -/
theorem hexDig_hexD : ∀ d, d < 16 → hexDig (UInt8.ofNat (hexD d)) = some d := by decide
theorem hexGo_snoc : ∀ (l : List UInt8) (acc : Nat) (c : UInt8), hexGo acc (l ++ [c]) = match hexGo acc l, hexDig c with
    | some v, some d => some (v * 16 + d)
    | _, _ => none
  | [], acc, c => by
    rw [List.nil_append, hexGo, hexGo]
    cases hexDig c <;> rfl
  | x :: l, acc, c => by
    rw [List.cons_append, hexGo, hexGo]
    cases hexDig x with
    | some d => exact hexGo_snoc l _ c
    | none => rfl
theorem hexGo_hexN (n : Nat) : hexGo 0 (oct8 (hexN n)) = some n := by
  induction n using Nat.strongRecOn with
  | ind n ih =>
    by_cases h : n < 16
    · rw [hexN_small h]
      show hexGo 0 [UInt8.ofNat (hexD n)] = _
      rw [hexGo, hexDig_hexD n h]
      show hexGo _ [] = _
      rw [hexGo]; congr 1; omega
    · rw [hexN_big (by omega), oct8_append, show oct8 [hexD (n % 16)] = [UInt8.ofNat (hexD (n % 16))] from rfl, hexGo_snoc, ih (n / 16) (by omega), hexDig_hexD _ (by omega)]
      show some _ = _
      congr 1; omega
theorem hexV_hexN {n : Nat} (h : n < 65536) : hexV (oct8 (hexN n)) = some n := by
  rw [hexV, if_neg, hexGo_hexN]
  rintro (e | e)
  · have := congrArg List.length e
    rw [oct8_length] at this
    exact hexN_nil n (List.length_eq_zero_iff.1 (by simpa using this))
  · rw [oct8_length] at e
    have := hexN_length n h
    omega
theorem par_hexN (n : Nat) : par 3 (oct8 (hexN n)) = none := by
  cases h : par 3 (oct8 (hexN n)) with
  | none => rfl
  | some xs =>
    have h1 := par_dot h
    have h2 : (46 : UInt8) ∈ oct8 (hexN n) := by simpa using h1
    exact absurd rfl (oct8_ne (c := 46) (by omega) (fun y hy => (hexN_ne n y hy).2) _ h2)
theorem grpGo_hexN (last : Bool) : ∀ gs : List Nat, (∀ g ∈ gs, g < 65536) → grpGo last ((gs.map hexN).map oct8) = some gs
  | [], _ => rfl
  | [g], h => by
    show grpGo last [oct8 (hexN g)] = _
    rw [grpGo]
    have e : (if last then par 3 (oct8 (hexN g)) else none) = none := by rw [par_hexN]; cases last <;> rfl
    rw [e]
    show (hexV _).map _ = _
    rw [hexV_hexN (h g (by simp))]; rfl
  | g :: k :: r, h => by
    have ih := grpGo_hexN last (k :: r) (fun x hx => h x (List.mem_cons_of_mem _ hx))
    show grpGo last (oct8 (hexN g) :: oct8 (hexN k) :: _) = _
    rw [grpGo, hexV_hexN (h g (by simp))]
    have ih' : grpGo last (oct8 (hexN k) :: List.map oct8 (List.map hexN r)) = some (k :: r) := ih
    rw [ih']
theorem grpP_hexN (last : Bool) (gs : List Nat) (h : ∀ g ∈ gs, g < 65536) : grpP last (oct8 (joinN 58 (gs.map hexN))) = some gs := by
  unfold grpP
  by_cases hg : gs = []
  · subst hg; rfl
  · have hne : gs.map hexN ≠ [] := by simpa using hg
    rw [if_neg, show (58 : UInt8) = UInt8.ofNat 58 from rfl, splitc_join (by omega) _ hne, grpGo_hexN last gs h]
    · intro x hx y hy
      obtain ⟨n, _, rfl⟩ := List.mem_map.1 hx
      exact ⟨(hexN_ne n y hy).1, (hexN_ne n y hy).2.2⟩
    · intro e
      have h1 : joinN 58 (gs.map hexN) = [] := by
        have := congrArg List.length e
        rw [oct8_length] at this
        exact List.length_eq_zero_iff.1 (by simpa using this)
      refine hne ((joinN_nil 58 _ ?_).1 h1)
      intro x hx
      obtain ⟨n, _, rfl⟩ := List.mem_map.1 hx
      exact hexN_nil n

/-! ### the two colons -/
theorem cut2_word : ∀ (w l : List UInt8), (∀ x ∈ w, x ≠ 58) → cut2 (w ++ l) = (cut2 l).map fun p => (w ++ p.1, p.2)
  | [], l, _ => by rw [List.nil_append]; cases cut2 l <;> rfl
  | x :: w, l, h => by
    have h0 := h x (by simp)
    have e : [58, 58].isPrefixOf (x :: (w ++ l)) = false := by simp [List.isPrefixOf]; intro e; exact absurd e.symm h0
    rw [List.cons_append, cut2, e, if_neg (by decide), cut2_word w l (fun y hy => h y (List.mem_cons_of_mem _ hy))]
    cases cut2 l <;> rfl
theorem cut2_join (t : List UInt8) : ∀ xs : List (List Nat), (∀ x ∈ xs, x ≠ [] ∧ ∀ y ∈ x, y ≠ 58 ∧ y < 256) → cut2 (oct8 (joinN 58 xs) ++ t) = (cut2 t).map fun p => (oct8 (joinN 58 xs) ++ p.1, p.2)
  | [], _ => by
    show cut2 ([] ++ t) = _
    cases h : cut2 t <;> simp [joinN, oct8, h]
  | [x], h => cut2_word _ _ (oct8_ne (c := 58) (by omega) (h x (by simp)).2)
  | x :: y :: r, h => by
    have ih := cut2_join t (y :: r) (fun z hz => h z (List.mem_cons_of_mem _ hz))
    have hy := h y (by simp)
    obtain ⟨a, b, hb⟩ : ∃ a b, joinN 58 (y :: r) = a :: b ∧ a ∈ y := by
      obtain ⟨hy1, _⟩ := hy
      cases y with
      | nil => exact absurd rfl hy1
      | cons a q =>
        cases r with
        | nil => exact ⟨a, q, rfl, by simp⟩
        | cons z r => exact ⟨a, _, rfl, by simp⟩
    obtain ⟨hb, ha⟩ := hb
    have ha58 : UInt8.ofNat a ≠ 58 := ofNat_ne (c := 58) (hy.2 a ha).2 (by omega) (hy.2 a ha).1
    rw [hb] at ih
    rw [joinN, oct8_append, List.append_assoc, cut2_word _ _ (oct8_ne (c := 58) (by omega) (h x (by simp)).2), hb]
    have e : [58, 58].isPrefixOf (58 :: (oct8 (a :: b) ++ t)) = false := by
      show [58, 58].isPrefixOf (58 :: UInt8.ofNat a :: (oct8 b ++ t)) = false
      simp [List.isPrefixOf]
      exact fun e => ha58 e.symm
    have e2 : cut2 (oct8 (58 :: a :: b) ++ t) = (cut2 (oct8 (a :: b) ++ t)).map fun p => (58 :: p.1, p.2) := by
      show cut2 (58 :: (oct8 (a :: b) ++ t)) = _
      rw [cut2, e, if_neg (by decide)]
    rw [e2, ih]
    cases cut2 t with
    | none => rfl
    | some p => simp [oct8]

theorem hexs_ok (gs : List Nat) : ∀ x ∈ gs.map hexN, x ≠ [] ∧ ∀ y ∈ x, y ≠ 58 ∧ y < 256 := by
  intro x hx
  obtain ⟨n, _, rfl⟩ := List.mem_map.1 hx
  exact ⟨hexN_nil n, fun y hy => ⟨(hexN_ne n y hy).1, (hexN_ne n y hy).2.2⟩⟩
theorem parse6_fmt6 {gs : List Nat} (h8 : gs.length = 8) (hb : ∀ g ∈ gs, g < 65536) : parse6 (oct8 (fmt6 gs)) = some gs := by
  unfold parse6 fmt6
  obtain ⟨hz, hle⟩ := zero_scan h8
  generalize (scanZ gs 0 0 0 0).1 = s at hz hle ⊢
  generalize (scanZ gs 0 0 0 0).2 = l at hz hle ⊢
  by_cases h2 : l < 2
  · have hc := cut2_join [] (gs.map hexN) (hexs_ok gs)
    rw [List.append_nil] at hc
    rw [if_pos h2, hc]
    show eight (grpP true _) = _
    rw [grpP_hexN true gs hb]
    show (if gs.length = 8 then some gs else none) = _
    rw [if_pos h8]
  · have hc := cut2_join ([58, 58] ++ oct8 (joinN 58 ((gs.drop (s + l)).map hexN))) ((gs.take s).map hexN) (hexs_ok _)
    have hc2 : cut2 ([58, 58] ++ oct8 (joinN 58 ((gs.drop (s + l)).map hexN))) = some ([], oct8 (joinN 58 ((gs.drop (s + l)).map hexN))) := by
      show cut2 (58 :: 58 :: _) = _
      rw [cut2, if_pos (by simp [List.isPrefixOf])]; rfl
    rw [if_neg h2, List.append_assoc, oct8_append, oct8_append, show oct8 [58, 58] = [58, 58] from rfl, hc, hc2]
    show fill (grpP false (_ ++ [])) (grpP true _) = _
    rw [List.append_nil, grpP_hexN false _ (fun g hg => hb g (List.mem_of_mem_take hg)), grpP_hexN true _ (fun g hg => hb g (List.mem_of_mem_drop hg))]
    have l1 : (gs.take s).length = s := by rw [List.length_take]; omega
    have l2 : (gs.drop (s + l)).length = 8 - (s + l) := by rw [List.length_drop, h8]
    show (if (gs.take s).length + (gs.drop (s + l)).length ≤ 7 then some (gs.take s ++ (List.replicate (8 - (gs.take s).length - (gs.drop (s + l)).length) 0 ++ gs.drop (s + l))) else none) = _
    rw [if_pos (by omega), l1, l2, show 8 - s - (8 - (s + l)) = l by omega, ← hz]

theorem joinN_two (sep : Nat) (x y : List Nat) (r : List (List Nat)) : sep ∈ joinN sep (x :: y :: r) := by rw [joinN]; simp
theorem fmt6_colon {gs : List Nat} (h8 : gs.length = 8) : (oct8 (fmt6 gs)).contains 58 = true := by
  have h : 58 ∈ fmt6 gs := by
    unfold fmt6
    split
    · match gs, h8 with
      | a :: b :: r, _ => exact joinN_two 58 _ _ _
    · simp
  have : (58 : UInt8) ∈ oct8 (fmt6 gs) := List.mem_map.2 ⟨58, h, rfl⟩
  simpa using this
theorem pack_grps {xs : List Nat} (hx : Bytes xs) : pack (grps xs) = xs := by
  obtain ⟨hl, hb⟩ := hx
  match xs, hl with
  | [x0, x1, x2, x3, x4, x5, x6, x7, x8, x9, x10, x11, x12, x13, x14, x15], _ =>
    have h : ∀ a b : Nat, b < 256 → (a * 256 + b) / 256 = a ∧ (a * 256 + b) % 256 = b := fun a b h => by omega
    have k := fun x (hx : x ∈ [x0, x1, x2, x3, x4, x5, x6, x7, x8, x9, x10, x11, x12, x13, x14, x15]) => hb x hx
    simp only [grps, grp, pack, List.flatMap_cons, List.flatMap_nil, List.getD_cons_succ, List.getD_cons_zero]
    simp [(h x0 x1 (k _ (by simp))), (h x2 x3 (k _ (by simp))), (h x4 x5 (k _ (by simp))), (h x6 x7 (k _ (by simp))), (h x8 x9 (k _ (by simp))), (h x10 x11 (k _ (by simp))), (h x12 x13 (k _ (by simp))), (h x14 x15 (k _ (by simp)))]

/-- Parse of Format. -/
theorem parse_fmt {b : Bool} {xs : List Nat} (hx : Bytes xs) (hv : validA b xs = true) : parseS (oct8 (fmtA b xs)) = some (b, xs) := by
  rw [fmtA, if_pos hv]
  cases b with
  | true =>
    show parseS (oct8 (fmt6 (grps xs))) = _
    rw [parseS, if_pos (fmt6_colon rfl), parse6_fmt6 rfl (grps_lt hx)]
    show some (true, pack (grps xs)) = _
    rw [pack_grps hx]
  | false =>
    show parseS (oct8 (fmt4 xs)) = _
    have h4 := par_fmt4 hx
    rw [parseS, par_colon h4, if_neg (by decide), h4]
    show some (false, xs.take 4 ++ _) = _
    have hz : xs.drop 4 = List.replicate 12 0 := by
      have hv' : (xs.drop 4).all (fun x => x == 0) = true := by simpa [validA] using hv
      refine List.eq_replicate_iff.2 ⟨?_, fun x hxm => ?_⟩
      · rw [List.length_drop, hx.1]
      · have := List.all_eq_true.1 hv' x hxm; simpa using this
    conv => rhs; rw [← List.take_append_drop 4 xs, hz]
    rfl
theorem fmtA_length {b : Bool} {xs : List Nat} (hx : Bytes xs) : (fmtA b xs).length ≤ 100 := by
  unfold fmtA
  split
  · split
    · have hj : ∀ gs : List Nat, gs.length ≤ 8 → (∀ g ∈ gs, g < 65536) → (joinN 58 (gs.map hexN)).length ≤ 40 := fun gs hl hb => by
        have h1 := joinN_length 58 4 (gs.map hexN) (fun x hx => by
          obtain ⟨g, hg, rfl⟩ := List.mem_map.1 hx
          exact hexN_length g (hb g hg))
        rw [List.length_map] at h1
        omega
      unfold fmt6
      split
      · have := hj (grps xs) (Nat.le_refl 8) (grps_lt hx); omega
      · have h1 := hj ((grps xs).take (scanZ (grps xs) 0 0 0 0).1) (by rw [List.length_take]; exact Nat.le_trans (Nat.min_le_right _ _) (Nat.le_refl 8)) (fun g hg => grps_lt hx g (List.mem_of_mem_take hg))
        have h2 := hj ((grps xs).drop ((scanZ (grps xs) 0 0 0 0).1 + (scanZ (grps xs) 0 0 0 0).2)) (by rw [List.length_drop]; exact Nat.sub_le 8 _) (fun g hg => grps_lt hx g (List.mem_of_mem_drop hg))
        rw [List.length_append, List.length_append]
        simp only [List.length_cons, List.length_nil]
        omega
    · have := joinN_length 46 3 ((xs.take 4).map decN) (fun x h => by
        obtain ⟨y, hy, rfl⟩ := List.mem_map.1 h
        exact decN_length (hx.2 y (List.mem_of_mem_take hy)))
      rw [List.length_map, List.length_take] at this
      unfold fmt4
      omega
  · simp
end Go.Proofs.YtnadendhboiliaaGreat
