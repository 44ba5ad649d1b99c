/-
  CONTRACTS of the reference's FormatHex, over this seat's translation: what the call returns.
  Conditions: the number is below 65536.
  CONTRACTS of the reference's FormatDecimal, over this seat's translation: what the call returns.
  Conditions: the number is below 2 to the 31.
-/
import Derived.Test.YtmhnailcmlomiaaDoorGr
import Derived.Deep.RegionHeld3
import Derived.Test.YtmhnailcmlomiaaDoorH3
import Derived.Deep.RegionLaw
namespace Go.Proofs.YtmhnailcmlomiaaDoor
open Go.ChangeShapes Go.WideShapes Go.ChangeAt Go.RowKit
set_option linter.unusedVariables false

theorem hexN_len4 : ∀ n : Nat, n < 65536 → (hexN n).length ≤ 4 := by
  intro n h
  have h1 : ∀ n, n < 16 → (hexN n).length = 1 := fun n h => by rw [hexN_small h]; rfl
  have h2 : ∀ n, n < 256 → (hexN n).length ≤ 2 := fun n h => by
    by_cases h' : n < 16
    · rw [h1 n h']; omega
    · rw [hexN_big (by omega), List.length_append, h1 _ (by omega)]; simp
  have h3 : ∀ n, n < 4096 → (hexN n).length ≤ 3 := fun n h => by
    by_cases h' : n < 16
    · rw [h1 n h']; omega
    · rw [hexN_big (by omega), List.length_append]; have := h2 (n / 16) (by omega); simp; omega
  by_cases h' : n < 16
  · rw [h1 n h']; omega
  · rw [hexN_big (by omega), List.length_append]; have := h3 (n / 16) (by omega); simp; omega

theorem str_app (xs ys : List Nat) : str (xs ++ ys) = str xs ++ str ys := by
  unfold str
  apply ByteArray.ext
  simp

theorem hexs_slice : ∀ d, d < 16 → (⟨#[48, 49, 50, 51, 52, 53, 54, 55, 56, 57, 97, 98, 99, 100, 101, 102]⟩ : ByteArray).extract d (d + 1) = str [hexD d] := by
  have h : ∀ d, d < 16 → ((⟨#[48, 49, 50, 51, 52, 53, 54, 55, 56, 57, 97, 98, 99, 100, 101, 102]⟩ : ByteArray).extract d (d + 1)).data.toList = (str [hexD d]).data.toList := by decide
  intro d hd
  have h1 := h d hd
  exact ByteArray.ext (Array.toList_inj.1 h1)

end Go.Proofs.YtmhnailcmlomiaaDoor
namespace Go.Proofs.YtmhnailcmlomiaaDoor
open Go.ChangeShapes Go.WideShapes Go.ChangeAt Go.RowKit
set_option linter.unusedVariables false

theorem conv_bytes {w : World} {n j : Nat} {L D : List Nat} {t : TypeId} {fr : Nat × Nat} (hb : w.heap[n]? = some (.cells (nums .u8 L).toArray t fr)) (hT : ∀ i x, D[i]? = some x → L[j + i]? = some x) (m c : Nat) (hm : D.length = m) : Sem.run Tryd.prog (convert 62 9 (.slice (some ⟨n, j, none⟩) m c)) w = .ok (.string (str D)) w := by
  rw [← strOfNums_str]
  refine run_convert_bytes_arg w 62 5 Tryd.underlying62 Tryd.underlying5 n j m c _ (by rw [List.length_map]; exact hm) ?_ 9 Tryd.underlying9
  intro i hi
  have hi' : i < D.length := by omega
  have h1 : L[j + i]? = some D[i] := hT i _ (List.getElem?_eq_getElem hi')
  rw [cell_of_row _ _ _ _ _ _ hb]
  have h2 := nums_get (k := .u8) h1
  simp [List.getD, List.getElem?_eq_getElem hi'] at h2 ⊢
  exact h2
theorem conv_one {w : World} {n d : Nat} {t : TypeId} {fr : Nat × Nat} (hb : w.heap[n]? = some (.cells #[.int .u8 d] t fr)) : Sem.run Tryd.prog (convert 62 9 (.slice (some ⟨n, 0, none⟩) 1 1)) w = .ok (.string (str [d])) w :=
  conv_bytes (L := [d]) (D := [d]) hb (fun i x h => by rw [Nat.zero_add]; exact h) 1 1 rfl
theorem decN_len10 {n : Nat} : n < 2147483648 → (decN n).length ≤ 10 := by
  have key : ∀ k n, n < 10 ^ (k + 1) → (decN n).length ≤ k + 1 := by
    intro k
    induction k with
    | zero => intro n h; rw [decN_small (by simpa using h)]; simp
    | succ k ih =>
      intro n h
      by_cases h1 : n < 10
      · rw [decN_small h1]; simp
      · rw [decN_big (by omega), List.length_append]
        have := ih (n / 10) (by rw [Nat.pow_succ] at h; omega)
        simp; omega
  intro h
  exact key 9 n (by have : (10 : Nat) ^ (9 + 1) = 10000000000 := by decide
                    omega)

end Go.Proofs.YtmhnailcmlomiaaDoor
