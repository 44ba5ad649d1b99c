/-
  What the reference's Format gives, that it is what Format gives, and that Parse gives the address back; no walk.
  Conditions: as each theorem says.
-/
import Derived.Test.YtmhnailcmlomiaaGreatDoorW
import Derived.Test.YtmhnailcmlomiaaGreatDoorH3
namespace Go.Proofs.YtmhnailcmlomiaaGreatDoor
open Go.ChangeShapes Go.WideShapes Go.ChangeAt Go.RowKit
set_option linter.unusedVariables false

/-- Zero or one. -/
def norm (g : Nat) : Nat := if g = 0 then 0 else 1
theorem norm_zero (g : Nat) : norm g = 0 ↔ g = 0 := by unfold norm; split <;> omega
theorem scanZ_norm : ∀ (gs : List Nat) (i s l r : Nat), scanZ (gs.map norm) i s l r = scanZ gs i s l r
  | [], i, s, l, r => rfl
  | g :: gs, i, s, l, r => by
    have h := norm_zero g
    simp only [List.map_cons, scanZ]
    by_cases hg : g = 0
    · subst hg
      have hn : norm 0 = 0 := rfl
      simp only [hn, ne_eq, not_true_eq_false, if_false, scanZ_norm gs]
    · have hn : ¬ norm g = 0 := fun e => hg (h.1 e)
      simp only [hn, hg, ne_eq, not_false_eq_true, if_true, scanZ_norm gs]

/-- How many zeros stand in front. -/
def zrun : List Nat → Nat
  | [] => 0
  | g :: r => if g = 0 then zrun r + 1 else 0
theorem zrun_norm : ∀ gs : List Nat, zrun (gs.map norm) = zrun gs
  | [] => rfl
  | g :: r => by
    have h := norm_zero g
    rw [List.map_cons, zrun, zrun]
    by_cases hg : g = 0
    · rw [if_pos (h.2 hg), if_pos hg, zrun_norm]
    · rw [if_neg (fun e => hg (h.1 e)), if_neg hg]
theorem zrun_le : ∀ gs : List Nat, zrun gs ≤ gs.length
  | [] => Nat.le_refl _
  | g :: r => by
    have := zrun_le r
    rw [zrun]
    split <;> simp <;> omega
theorem zrun_hit : ∀ {gs : List Nat} {n : Nat}, (∀ j, j < n → gs[j]? = some 0) → (∀ x, gs[n]? = some x → x ≠ 0) → zrun gs = n
  | [], n, h0, h1 => by
    cases n with
    | zero => rfl
    | succ n => have := h0 0 (by omega); simp at this
  | g :: r, n, h0, h1 => by
    rw [zrun]
    cases n with
    | zero => rw [if_neg (h1 g rfl)]
    | succ n =>
      have := h0 0 (by omega)
      rw [List.getElem?_cons_zero] at this
      cases this
      rw [if_pos rfl, zrun_hit (gs := r) (n := n) (fun j hj => by have := h0 (j + 1) (by omega); simpa using this) (fun x hx => h1 x (by simpa using hx))]

/-- The reference's choice, when the first i places have been looked at. -/
def bestZ (gs : List Nat) : Nat → Int × Nat
  | 0 => (-1, 1)
  | i + 1 => if (bestZ gs i).2 < zrun (gs.drop i) then ((i : Int), zrun (gs.drop i)) else bestZ gs i
theorem bestZ_norm (gs : List Nat) : ∀ i, bestZ (gs.map norm) i = bestZ gs i
  | 0 => rfl
  | i + 1 => by rw [bestZ, bestZ, bestZ_norm gs i, ← List.map_drop, zrun_norm]

def eightB (a b c d e f g h : Bool) : List Nat := [a.toNat, b.toNat, c.toNat, d.toNat, e.toNat, f.toNat, g.toNat, h.toNat]
theorem norm_bool (g : Nat) : norm g = (decide (g ≠ 0)).toNat := by unfold norm; split <;> simp_all
theorem norm_eight {gs : List Nat} (h : gs.length = 8) : ∃ a b c d e f g h, gs.map norm = eightB a b c d e f g h := by
  match gs, h with
  | [a, b, c, d, e, f, g, h], _ => exact ⟨_, _, _, _, _, _, _, _, by simp only [List.map_cons, List.map_nil, norm_bool]; rfl⟩

set_option maxRecDepth 100000 in
theorem best_all : ∀ a b c d e f g h : Bool, bestZ (eightB a b c d e f g h) 8 = (if (scanZ (eightB a b c d e f g h) 0 0 0 0).2 < 2 then (-1, 1) else (((scanZ (eightB a b c d e f g h) 0 0 0 0).1 : Int), (scanZ (eightB a b c d e f g h) 0 0 0 0).2)) := by decide +kernel
theorem best_scan {gs : List Nat} (h : gs.length = 8) : bestZ gs 8 = (if (scanZ gs 0 0 0 0).2 < 2 then (-1, 1) else (((scanZ gs 0 0 0 0).1 : Int), (scanZ gs 0 0 0 0).2)) := by
  obtain ⟨a, b, c, d, e, f, g, i, hn⟩ := norm_eight h
  rw [← bestZ_norm, ← scanZ_norm, hn]
  exact best_all a b c d e f g i
set_option maxRecDepth 100000 in
theorem zero_all : ∀ a b c d e f g h : Bool, (eightB a b c d e f g h) = (eightB a b c d e f g h).take (scanZ (eightB a b c d e f g h) 0 0 0 0).1 ++ (List.replicate (scanZ (eightB a b c d e f g h) 0 0 0 0).2 0 ++ (eightB a b c d e f g h).drop ((scanZ (eightB a b c d e f g h) 0 0 0 0).1 + (scanZ (eightB a b c d e f g h) 0 0 0 0).2)) ∧ (scanZ (eightB a b c d e f g h) 0 0 0 0).1 + (scanZ (eightB a b c d e f g h) 0 0 0 0).2 ≤ 8 := by decide +kernel
theorem zero_scan {gs : List Nat} (h : gs.length = 8) : gs = gs.take (scanZ gs 0 0 0 0).1 ++ (List.replicate (scanZ gs 0 0 0 0).2 0 ++ gs.drop ((scanZ gs 0 0 0 0).1 + (scanZ gs 0 0 0 0).2)) ∧ (scanZ gs 0 0 0 0).1 + (scanZ gs 0 0 0 0).2 ≤ 8 := by
  obtain ⟨a, b, c, d, e, f, g, i, hn⟩ := norm_eight h
  have h1 := zero_all a b c d e f g i
  rw [← hn, scanZ_norm] at h1
  generalize (scanZ gs 0 0 0 0).1 = s at h1 ⊢
  generalize (scanZ gs 0 0 0 0).2 = l at h1 ⊢
  refine ⟨?_, h1.2⟩
  have hz : (gs.drop s).take l = List.replicate l 0 := by
    have h2 : ((gs.map norm).drop s).take l = List.replicate l 0 := by
      have hs : ((gs.map norm).take s).length = s := by rw [List.length_take, List.length_map, h]; omega
      conv => lhs; rw [h1.1]
      rw [List.drop_append_of_le_length (by omega), List.drop_of_length_le (by omega), List.nil_append, List.take_append_of_le_length (by simp), List.take_of_length_le (by simp)]
    rw [← List.map_drop, ← List.map_take] at h2
    refine List.eq_replicate_iff.2 ⟨?_, ?_⟩
    · rw [List.length_take, List.length_drop, h, Nat.min_eq_left (by omega)]
    · intro x hx
      have h3 : norm x ∈ List.replicate l 0 := by rw [← h2]; exact List.mem_map_of_mem hx
      exact (norm_zero x).1 (List.eq_of_mem_replicate h3)
  rw [← hz, ← List.drop_drop]
  rw [List.take_append_drop, List.take_append_drop]

/-! ### the text, piece by piece -/

/-- A group behind what is there. -/
def tx (s x : List Nat) : List Nat := if s = [] ∨ s.getLast? = some 58 then s ++ x else s ++ (58 :: x)
theorem hexD_ne {d : Nat} (h : d < 16) : hexD d ≠ 58 ∧ hexD d ≠ 46 := by unfold hexD; split <;> omega
theorem hexN_ne : ∀ (n : Nat), ∀ x ∈ hexN n, x ≠ 58 ∧ x ≠ 46 ∧ x < 256 := by
  intro n
  induction n using Nat.strongRecOn with
  | ind n ih =>
    by_cases h : n < 16
    · rw [hexN_small h]
      intro x hx
      obtain rfl := List.mem_singleton.1 hx
      exact ⟨(hexD_ne h).1, (hexD_ne h).2, hexD_lt h⟩
    · rw [hexN_big (by omega)]
      intro x hx
      rcases List.mem_append.1 hx with hx | hx
      · exact ih (n / 16) (by omega) x hx
      · obtain rfl := List.mem_singleton.1 hx
        exact ⟨(hexD_ne (by omega)).1, (hexD_ne (by omega)).2, hexD_lt (by omega)⟩
theorem hexN_nil (n : Nat) : hexN n ≠ [] := by
  by_cases h : n < 16
  · rw [hexN_small h]; simp
  · rw [hexN_big (by omega)]; simp
theorem joinN_snoc (sep : Nat) : ∀ (xs : List (List Nat)) (x : List Nat), xs ≠ [] → joinN sep (xs ++ [x]) = joinN sep xs ++ sep :: x
  | [], x, h => absurd rfl h
  | [y], x, _ => rfl
  | y :: z :: r, x, _ => by
    have ih := joinN_snoc sep (z :: r) x (by simp)
    rw [List.cons_append] at ih
    rw [List.cons_append, List.cons_append, joinN, ih, joinN]
    simp
theorem joinN_last (sep : Nat) : ∀ (xs : List (List Nat)) (x : List Nat), x ≠ [] → (joinN sep (xs ++ [x])).getLast? = x.getLast? := by
  intro xs x hx
  by_cases h : xs = []
  · subst h; rfl
  · rw [joinN_snoc sep xs x h]
    cases x with
    | nil => exact absurd rfl hx
    | cons a r => simp [List.getLast?_append, List.getLast?_cons]
theorem joinN_nil (sep : Nat) (xs : List (List Nat)) (h : ∀ x ∈ xs, x ≠ []) : joinN sep xs = [] ↔ xs = [] := by
  match xs with
  | [] => simp [joinN]
  | [x] => simpa [joinN] using h x
  | x :: y :: r => simp [joinN]

/-- One more group behind some. -/
theorem tx_more (pre : List Nat) (hp : pre = [] ∨ pre.getLast? = some 58) (gs : List Nat) (g : Nat) : tx (pre ++ joinN 58 (gs.map hexN)) (hexN g) = pre ++ joinN 58 ((gs ++ [g]).map hexN) := by
  rcases List.eq_nil_or_concat gs with rfl | ⟨hs, k, hk0⟩
  · rw [tx, if_pos]
    · simp [joinN]
    · rcases hp with hp | hp
      · exact .inl (by simp [hp, joinN])
      · exact .inr (by simpa [joinN] using hp)
  · rw [List.concat_eq_append] at hk0
    subst hk0
    have hl : (joinN 58 ((hs ++ [k]).map hexN)).getLast? = (hexN k).getLast? := by
      rw [List.map_append, List.map_singleton]; exact joinN_last 58 _ _ (hexN_nil k)
    have hk : ∃ x, (hexN k).getLast? = some x ∧ x ≠ 58 := by
      cases hh : (hexN k).getLast? with
      | none => exact absurd (List.getLast?_eq_none_iff.1 hh) (hexN_nil k)
      | some x => exact ⟨x, rfl, (hexN_ne k x (List.mem_of_getLast? hh)).1⟩
    obtain ⟨x, hx, hx58⟩ := hk
    have hne : joinN 58 ((hs ++ [k]).map hexN) ≠ [] := by
      intro e; rw [e, hx] at hl; cases hl
    rw [tx, if_neg]
    · rw [List.map_append (l₂ := [g]), List.map_singleton, joinN_snoc _ _ _ (by simp), List.append_assoc]
    · rintro (e | e)
      · exact hne (List.append_eq_nil_iff.1 e).2
      · rw [List.getLast?_append, hl, hx] at e
        simp at e
        exact hx58 e

/-- The reference's text when the groups ahead of place i have been written; the run of zeros is taken at once. -/
def txtAt (gs : List Nat) (s l i : Nat) : List Nat := if i ≤ s then joinN 58 ((gs.take i).map hexN) else (joinN 58 ((gs.take s).map hexN) ++ [58, 58]) ++ joinN 58 (((gs.drop (s + l)).take (i - (s + l))).map hexN)
theorem txtAt_zero (gs : List Nat) (s l : Nat) : txtAt gs s l 0 = [] := by rw [txtAt, if_pos (Nat.zero_le _)]; rfl
theorem txtAt_low {gs : List Nat} {s l i g : Nat} (h : i < s) (hg : gs[i]? = some g) : tx (txtAt gs s l i) (hexN g) = txtAt gs s l (i + 1) := by
  have h1 := tx_more [] (.inl rfl) (gs.take i) g
  rw [List.nil_append, List.nil_append] at h1
  rw [txtAt, if_pos (by omega), txtAt, if_pos (by omega), h1, List.take_add_one, hg]
  rfl
theorem txtAt_run (gs : List Nat) (s l : Nat) (hl : 1 ≤ l) : txtAt gs s l s ++ [58, 58] = txtAt gs s l (s + l) := by
  rw [txtAt, if_pos (Nat.le_refl _), txtAt, if_neg (by omega), Nat.sub_self]
  simp [joinN]
theorem txtAt_high {gs : List Nat} {s l i g : Nat} (hl : 1 ≤ l) (h : s + l ≤ i) (hg : gs[i]? = some g) : tx (txtAt gs s l i) (hexN g) = txtAt gs s l (i + 1) := by
  rw [txtAt, if_neg (by omega), txtAt, if_neg (by omega), tx_more _ (.inr (by simp)), show i + 1 - (s + l) = (i - (s + l)) + 1 by omega, List.take_add_one, List.getElem?_drop, show s + l + (i - (s + l)) = i by omega, hg]
  rfl
theorem txtAt_end {gs : List Nat} (h8 : gs.length = 8) (s l : Nat) (h : s + l ≤ 8) (hl : 1 ≤ l) : txtAt gs s l 8 = joinN 58 ((gs.take s).map hexN) ++ [58, 58] ++ joinN 58 ((gs.drop (s + l)).map hexN) := by
  have e : (gs.drop (s + l)).take (8 - (s + l)) = gs.drop (s + l) := List.take_of_length_le (by rw [List.length_drop]; omega)
  rw [txtAt, if_neg (by omega), e]
theorem txtAt_plain {gs : List Nat} (h8 : gs.length = 8) (s l : Nat) (h : 8 ≤ s) : txtAt gs s l 8 = joinN 58 (gs.map hexN) := by
  rw [txtAt, if_pos h, List.take_of_length_le (by omega)]
end Go.Proofs.YtmhnailcmlomiaaGreatDoor
