/-
  CONTRACTS of the reference's Format, over this seat's translation: what the call returns.
  Conditions: the argument is an address.
-/
import Derived.Test.YtmhnailcmlomiaaDoorR10
import Derived.Test.YtmhnailcmlomiaaDoorR11
import Derived.Test.YtmhnailcmlomiaaDoorPg
import Derived.Test.YtmhnailcmlomiaaDoorR2
namespace Go.Proofs.YtmhnailcmlomiaaDoor
open Go.ChangeShapes Go.WideShapes Go.ChangeAt Go.RowKit
set_option linter.unusedVariables false

theorem bs_isEmpty_l (l : List UInt8) : (bs l).toList.isEmpty = l.isEmpty := by
  have : (bs l).toList = l := by rw [ByteArray.toList_eq]; rfl
  rw [this]
theorem str_size (t : List Nat) : (str t).size = t.length := by simp [str, ByteArray.size]
theorem str_isEmpty (t : List Nat) : (str t).toList.isEmpty = t.isEmpty := by
  rw [str_oct, bs_isEmpty_l]
  cases t <;> rfl
theorem txtAt_length {gs : List Nat} (hb : ∀ g ∈ gs, g < 65536) (h8 : gs.length = 8) (s l i : Nat) : (txtAt gs s l i).length ≤ 100 := by
  have hj : ∀ gs : List Nat, gs.length ≤ 8 → (∀ g ∈ gs, g < 65536) → (joinN 58 (gs.map hexN)).length ≤ 40 := fun gs hl hb => by
    have h1 := joinN_length 58 4 (gs.map hexN) (fun x hx => by
      obtain ⟨g, hg, rfl⟩ := List.mem_map.1 hx
      exact hexN_length g (hb g hg))
    rw [List.length_map] at h1
    omega
  unfold txtAt
  split
  · have := hj (gs.take i) (by rw [List.length_take]; omega) (fun g hg => hb g (List.mem_of_mem_take hg))
    omega
  · have h1 := hj (gs.take s) (by rw [List.length_take]; omega) (fun g hg => hb g (List.mem_of_mem_take hg))
    have h2 := hj ((gs.drop (s + l)).take (i - (s + l))) (by rw [List.length_take, List.length_drop]; omega) (fun g hg => hb g (List.mem_of_mem_drop (List.mem_of_mem_take hg)))
    rw [List.length_append, List.length_append]
    simp only [List.length_cons, List.length_nil]
    omega

theorem joinN_mem (sep : Nat) : ∀ (xs : List (List Nat)) (y : Nat), y ∈ joinN sep xs → y = sep ∨ ∃ x ∈ xs, y ∈ x
  | [], y, h => by cases h
  | [x], y, h => .inr ⟨x, by simp, h⟩
  | x :: z :: r, y, h => by
    rw [joinN] at h
    rcases List.mem_append.1 h with h | h
    · exact .inr ⟨x, by simp, h⟩
    · rcases List.mem_cons.1 h with h | h
      · exact .inl h
      · rcases joinN_mem sep (z :: r) y h with h | ⟨u, hu, h⟩
        · exact .inl h
        · exact .inr ⟨u, List.mem_cons_of_mem _ hu, h⟩
theorem joinH_lt (gs : List Nat) : ∀ y ∈ joinN 58 (gs.map hexN), y < 256 := by
  intro y hy
  rcases joinN_mem 58 _ y hy with h | ⟨x, hx, h⟩
  · omega
  · obtain ⟨n, _, rfl⟩ := List.mem_map.1 hx
    exact (hexN_ne n y h).2.2
theorem txtAt_lt (gs : List Nat) (s l i : Nat) : ∀ y ∈ txtAt gs s l i, y < 256 := by
  intro y hy
  unfold txtAt at hy
  split at hy
  · exact joinH_lt _ y hy
  · rcases List.mem_append.1 hy with hy | hy
    · rcases List.mem_append.1 hy with hy | hy
      · exact joinH_lt _ y hy
      · simp at hy; omega
    · exact joinH_lt _ y hy

/-- The reference's choice as a run: none is a run behind the end. -/
theorem best_run {gs : List Nat} (h8 : gs.length = 8) {f : Int} {m : Nat} (h : bestZ gs 8 = (f, m)) : ∃ s l : Nat, 1 ≤ l ∧ s + l ≤ 9 ∧ txtAt gs s l 8 = fmt6 gs ∧ ((f = -1 ∧ s = 8) ∨ (f = s ∧ m = l ∧ s + l ≤ 8)) := by
  rw [best_scan h8] at h
  have hz := (zero_scan h8).2
  have hf : fmt6 gs = if (scanZ gs 0 0 0 0).2 < 2 then joinN 58 (gs.map hexN) else joinN 58 ((gs.take (scanZ gs 0 0 0 0).1).map hexN) ++ [58, 58] ++ joinN 58 ((gs.drop ((scanZ gs 0 0 0 0).1 + (scanZ gs 0 0 0 0).2)).map hexN) := rfl
  generalize (scanZ gs 0 0 0 0).1 = s at h hz hf
  generalize (scanZ gs 0 0 0 0).2 = l at h hz hf
  by_cases h2 : l < 2
  · rw [if_pos h2] at h hf
    cases h
    exact ⟨8, 1, by omega, by omega, by rw [hf]; exact txtAt_plain h8 8 1 (by omega), .inl ⟨rfl, rfl⟩⟩
  · rw [if_neg h2] at h hf
    cases h
    exact ⟨s, m, by omega, by omega, by rw [hf]; exact txtAt_end h8 s m hz (by omega), .inr ⟨rfl, rfl, hz⟩⟩

theorem last_index {t : List Nat} {x : Nat} (h : t.getLast? = some x) (hx : x < 256) (w : World) : Sem.run Tryd.prog (Instr.index 9 (.string (str t)) (.int .i64 ((t.length : Int) - 1))) w = .ok (.int .u8 (x : Int)) w := by
  have hne : t ≠ [] := by intro e; rw [e] at h; cases h
  have hl : 0 < t.length := List.length_pos_iff.2 hne
  have h1 : (oct8 t)[t.length - 1]? = some (UInt8.ofNat x) := by
    rw [oct8, List.getElem?_map, ← List.getLast?_eq_getElem?, h]; rfl
  have h2 := bs_index h1 w
  have hc : ((t.length - 1 : Nat) : Int) = (t.length : Int) - 1 := by omega
  have hn : ((UInt8.ofNat x).toNat : Int) = (x : Int) := by simp; omega
  rw [hc, hn] at h2
  exact h2

theorem fmt4_four {xs : List Nat} {x0 x1 x2 x3 : Nat} (h0 : xs[0]? = some x0) (h1 : xs[1]? = some x1) (h2 : xs[2]? = some x2) (h3 : xs[3]? = some x3) : fmt4 xs = decN x0 ++ 46 :: (decN x1 ++ 46 :: (decN x2 ++ 46 :: decN x3)) := by
  have e : xs.take 4 = [x0, x1, x2, x3] := by
    rw [List.take_add_one, List.take_add_one, List.take_add_one, List.take_add_one, h0, h1, h2, h3]
    rfl
  rw [fmt4, e]
  rfl

end Go.Proofs.YtmhnailcmlomiaaDoor
