/-
  CONTRACTS of joinGroups, formatV4, formatV6 and Format, over this seat's translation: what each call returns.
  Conditions: the argument is an address; the groups lie in memory; the package variables are as Glob says.
  CONTRACTS of strconv.Itoa of a byte, formatV4, formatV6 and Format, over this seat's translation: what each call returns.
  Conditions: the argument is an address; the package variables are as Gl says.
-/
import Derived.Test.YtnadendhboiliaaGreatGr
import Derived.Test.YtnadendhboiliaaGreatA
import Derived.Deep.RegionHeld3
import Derived.Lib.Join
import Derived.Lib.ItoaNum
import Derived.Lib.Strings
import Derived.Lib.Bytealg
import Derived.Shelf.Strings.Cut
namespace Go.Proofs.YtnadendhboiliaaGreat
open Go.ChangeShapes Go.WideShapes Go.ChangeAt Go.RowKit
set_option linter.unusedVariables false

/-- Strings with a sign between them. -/
def joinN (sep : Nat) : List (List Nat) → List Nat
  | [] => []
  | [x] => x
  | x :: y :: r => x ++ sep :: joinN sep (y :: r)

theorem join_str (sep : Nat) : ∀ xs : List (List Nat), Lib.join ((xs.map str).map (·.data.toList)) [UInt8.ofNat sep] = (joinN sep xs).map UInt8.ofNat
  | [] => rfl
  | [x] => by simp [Lib.join, str, joinN, List.intercalate]
  | x :: y :: r => by
    have ih := join_str sep (y :: r)
    simp only [Lib.join, List.map_cons, List.intercalate_cons_cons] at ih ⊢
    rw [ih]
    simp [str, joinN]

theorem hexN_length : ∀ n : Nat, n < 65536 → (hexN n).length ≤ 4 := by
  intro n h
  have h1 : ∀ n, n < 16 → (hexN n).length = 1 := fun n h => by rw [hexN_small h]; rfl
  have h2 : ∀ n, n < 256 → (hexN n).length ≤ 2 := fun n h => by
    by_cases h' : n < 16
    · rw [h1 n h']; omega
    · rw [hexN_big (by omega), List.length_append, h1 _ (by omega)]; simp
  have h3 : ∀ n, n < 4096 → (hexN n).length ≤ 3 := fun n h => by
    by_cases h' : n < 16
    · rw [h1 n h']; omega
    · rw [hexN_big (by omega), List.length_append]; have := h2 (n / 16) (by omega); simp; omega
  by_cases h' : n < 16
  · rw [h1 n h']; omega
  · rw [hexN_big (by omega), List.length_append]; have := h3 (n / 16) (by omega); simp; omega

theorem joinN_length (sep m : Nat) : ∀ xs : List (List Nat), (∀ x ∈ xs, x.length ≤ m) → (joinN sep xs).length ≤ xs.length * (m + 1)
  | [], _ => by simp [joinN]
  | [x], h => by have := h x (by simp); simp [joinN]; omega
  | x :: y :: r, h => by
    have ih := joinN_length sep m (y :: r) (fun z hz => h z (List.mem_cons_of_mem _ hz))
    have h1 := h x (by simp)
    simp only [joinN, List.length_append, List.length_cons] at ih ⊢
    have : (r.length + 1 + 1) * (m + 1) = (r.length + 1) * (m + 1) + (m + 1) := by rw [Nat.add_mul (r.length + 1) 1, Nat.one_mul]
    omega

theorem strs_cell {w : World} {bk o : Nat} {xs : List ByteArray} (h : At w (some ⟨bk, o, none⟩) (strs xs)) : ∀ (j : Nat) x, xs[j]? = some x → w.cell? ⟨bk, o + j, none⟩ = some (.string x) := fun j x hx => by
  obtain ⟨b, o', he, hc⟩ := h j _ (strs_get hx)
  cases he
  exact hc

end Go.Proofs.YtnadendhboiliaaGreat
namespace Go.Proofs.YtnadendhboiliaaGreat
open Go.ChangeShapes Go.WideShapes Go.ChangeAt Go.RowKit
set_option linter.unusedVariables false

/-- A number's decimal digits. -/
def decN (n : Nat) : List Nat := if h : n < 10 then [48 + n] else decN (n / 10) ++ [48 + n % 10]
termination_by n
decreasing_by omega

theorem decN_small {n : Nat} (h : n < 10) : decN n = [48 + n] := by rw [decN, dif_pos h]
theorem decN_big {n : Nat} (h : 10 ≤ n) : decN n = decN (n / 10) ++ [48 + n % 10] := by rw [decN, dif_neg (by omega)]
theorem decN_digits (n : Nat) : Lib.decDigits n = (decN n).map UInt8.ofNat := by
  induction n using Nat.strongRecOn with
  | ind n ih =>
    by_cases h : n < 10
    · rw [decN_small h, Lib.decDigits, dif_pos h]; rfl
    · rw [decN_big (by omega), Lib.decDigits, dif_neg h, ih (n / 10) (by omega)]; simp
theorem decN_length {n : Nat} (h : n < 256) : (decN n).length ≤ 3 := by
  by_cases h1 : n < 10
  · rw [decN_small h1]; simp
  · rw [decN_big (by omega), List.length_append]
    by_cases h2 : n / 10 < 10
    · rw [decN_small h2]; simp
    · rw [decN_big (by omega), List.length_append, decN_small (by omega)]; simp

/-- The four strings when the first i have been written. -/
def fpart (xs : List Nat) (i : Nat) : List ByteArray := (xs.take i).map (fun x => str (decN x)) ++ List.replicate (4 - i) (str [])

theorem fpart_length {xs : List Nat} {i : Nat} (h : xs.length = 16) (hi : i ≤ 4) : (fpart xs i).length = 4 := by
  rw [fpart, List.length_append, List.length_map, List.length_take, List.length_replicate]; omega
theorem fpart_step {xs : List Nat} {i x : Nat} (h : xs[i]? = some x) (hl : xs.length = 16) (hi : i < 4) : (fpart xs i).set i (str (decN x)) = fpart xs (i + 1) := by
  have hl1 : ((xs.take i).map (fun x => str (decN x))).length = i := by rw [List.length_map, List.length_take]; omega
  rw [fpart, fpart, List.set_append_right _ _ (by omega), hl1, Nat.sub_self, show 4 - i = (4 - (i + 1)) + 1 by omega, List.replicate_succ, List.set_cons_zero, List.take_add_one, h]
  simp

theorem strs_set {w : World} {m i : Nat} {x : ByteArray} {L : List ByteArray} {t : TypeId} (h : w.heap[m]? = some (.cells (strs L).toArray t (0, 0))) : (w.setCell ⟨m, i, none⟩ (.string x)).heap[m]? = some (.cells (strs (L.set i x)).toArray t (0, 0)) := by
  rw [heap_setCell_same w m i _ _ _ h]
  congr 2
  apply Array.ext'
  simp [strs, List.map_set]

/-- An IPv4 address's text. -/
def fmt4 (xs : List Nat) : List Nat := joinN 46 ((xs.take 4).map decN)

theorem scanZ_bound : ∀ (gs : List Nat) (i s l r : Nat), s + l ≤ i → r ≤ i → (scanZ gs i s l r).1 + (scanZ gs i s l r).2 ≤ i + gs.length
  | [], i, s, l, r, h, _ => by simpa [scanZ] using h
  | g :: gs, i, s, l, r, h, hr => by
    rw [scanZ]
    split
    · have := scanZ_bound gs (i + 1) s l 0 (by omega) (by omega); simp; omega
    · split
      · have := scanZ_bound gs (i + 1) (i - r) (r + 1) (r + 1) (by omega) (by omega); simp; omega
      · have := scanZ_bound gs (i + 1) s l (r + 1) (by omega) (by omega); simp; omega

/-- An IPv6 address's text, of its groups. -/
def fmt6 (gs : List Nat) : List Nat := if (scanZ gs 0 0 0 0).2 < 2 then joinN 58 (gs.map hexN) else joinN 58 ((gs.take (scanZ gs 0 0 0 0).1).map hexN) ++ [58, 58] ++ joinN 58 ((gs.drop ((scanZ gs 0 0 0 0).1 + (scanZ gs 0 0 0 0).2)).map hexN)

theorem str_append (xs ys : List Nat) : str (xs ++ ys) = str xs ++ str ys := by
  unfold str
  apply ByteArray.ext
  simp

/-- An address's text. -/
def fmtA (b : Bool) (xs : List Nat) : List Nat := if validA b xs then (if b then fmt6 (grps xs) else fmt4 xs) else []

end Go.Proofs.YtnadendhboiliaaGreat
