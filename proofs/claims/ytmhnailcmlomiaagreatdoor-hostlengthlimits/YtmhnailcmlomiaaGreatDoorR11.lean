/-
  CONTRACTS of the reference's FormatHex, over this seat's translation: what the call returns.
  Conditions: the number is below 65536.
  CONTRACTS of the reference's FormatDecimal, over this seat's translation: what the call returns.
  Conditions: the number is below 2 to the 31.
-/
import Derived.Test.YtmhnailcmlomiaaGreatDoorGr
import Derived.Deep.RegionHeld3
import Derived.Test.YtmhnailcmlomiaaGreatDoorH3
import Derived.Deep.RegionLaw
namespace Go.Proofs.YtmhnailcmlomiaaGreatDoor
open Go.ChangeShapes Go.WideShapes Go.ChangeAt Go.RowKit
set_option linter.unusedVariables false

theorem hexN_len4 : ∀ n : Nat, n < 65536 → (hexN n).length ≤ 4 := by
  intro n h
  have h1 : ∀ n, n < 16 → (hexN n).length = 1 := fun n h => by rw [hexN_small h]; rfl
  have h2 : ∀ n, n < 256 → (hexN n).length ≤ 2 := fun n h => by
    by_cases h' : n < 16
    · rw [h1 n h']; omega
    · rw [hexN_big (by omega), List.length_append, h1 _ (by omega)]; simp
  have h3 : ∀ n, n < 4096 → (hexN n).length ≤ 3 := fun n h => by
    by_cases h' : n < 16
    · rw [h1 n h']; omega
    · rw [hexN_big (by omega), List.length_append]; have := h2 (n / 16) (by omega); simp; omega
  by_cases h' : n < 16
  · rw [h1 n h']; omega
  · rw [hexN_big (by omega), List.length_append]; have := h3 (n / 16) (by omega); simp; omega

theorem str_app (xs ys : List Nat) : str (xs ++ ys) = str xs ++ str ys := by
  unfold str
  apply ByteArray.ext
  simp

theorem hexs_slice : ∀ d, d < 16 → (⟨#[48, 49, 50, 51, 52, 53, 54, 55, 56, 57, 97, 98, 99, 100, 101, 102]⟩ : ByteArray).extract d (d + 1) = str [hexD d] := by
  have h : ∀ d, d < 16 → ((⟨#[48, 49, 50, 51, 52, 53, 54, 55, 56, 57, 97, 98, 99, 100, 101, 102]⟩ : ByteArray).extract d (d + 1)).data.toList = (str [hexD d]).data.toList := by decide
  intro d hd
  have h1 := h d hd
  exact ByteArray.ext (Array.toList_inj.1 h1)

set_option maxHeartbeats 2000000 in
set_option maxRecDepth 100000 in
theorem fhex_ref (n : Nat) : n < 65536 → ∀ w, Calls Tryz.prog 72 #[.int .i64 n] w fun e w' => e = .returned (.string (str (hexN n))) ∧ Fr No w w' := by
  induction n using Nat.strongRecOn with
  | ind n ih =>
    intro hn w
    by_cases h : n < 16
    · have p1 : (n : Int) < 16 := by omega
      have q1 : (0 : Int) ≤ (n : Int) := by omega
      have q2 : (n : Int) + 1 ≤ 16 := by omega
      have q3 : (n : Int) ≤ (n : Int) + 1 := by omega
      have HS := Lib.hid (hexs_slice n h)
      go_enter Tryz.func72, Tryz.ntmps72
      go_wp2_with fail
      rw [HS.out]
      go_ret
      exact ⟨by rw [hexN_small h]; rfl, Fr.refl _ _⟩
    · have p1 : ¬ (n : Int) < 16 := by omega
      have HI := Lib.hid (fun w => ih (n / 16) (by omega) (by omega) w)
      have hd : n % 16 < 16 := by omega
      have HN : Hid (hexN n = hexN (n / 16) ++ [hexD (n % 16)]) := hexN_big (by omega)
      have w1 : IntKind.i64.wrap ((n : Int) / 16) = ((n / 16 : Nat) : Int) := by simp [IntKind.wrap, IntKind.bits, IntKind.signed]; omega
      have w2 : (n : Int).tmod 16 = ((n % 16 : Nat) : Int) := by rw [Int.tmod_eq_emod_of_nonneg (by omega)]; omega
      have hl : (str (hexN (n / 16))).size ≤ 4 := by
        have := hexN_len4 (n / 16) (by omega)
        simpa [str, ByteArray.size] using this
      have HS := Lib.hid (hexs_slice (n % 16) hd)
      generalize hm : n / 16 = m at HI HN w1 hl
      generalize n % 16 = d at hd HN w2 HS
      clear hm
      generalize hsm : str (hexN m) = sm at hl HI
      have HM := Lib.hid hsm
      have w3 : IntKind.i64.wrap ((d : Int) + 1) = (d : Int) + 1 := by simp [IntKind.wrap, IntKind.bits, IntKind.signed]; omega
      have q1 : (0 : Int) ≤ (d : Int) := by omega
      have q2 : (d : Int) + 1 ≤ 16 := by omega
      have q3 : (d : Int) ≤ (d : Int) + 1 := by omega
      have hx : ((⟨#[48, 49, 50, 51, 52, 53, 54, 55, 56, 57, 97, 98, 99, 100, 101, 102]⟩ : ByteArray).extract d (d + 1)).size = 1 := by rw [HS.out]; rfl
      have g1 : ¬ 9223372036854775807 < sm.size + 1 := by omega
      clear hsm hd h
      go_enter Tryz.func72, Tryz.ntmps72
      go_wp2_with fail
      have hS : Fr No w w.drew := Fr.drew No _
      go_region_held3 (fun w' => Fr No w w') (assumption) (first | (go_at_call 72; with_reducible refine (HI.out w.drew).mono ?_; rintro e w3 ⟨rfl, hf3⟩; have hS3 := hS.trans hf3; clear hf3))
      go_wp2_with fail
      go_ret
      exact ⟨by rw [HN.out, str_app, HM.out, HS.out]; rfl, hS3⟩
end Go.Proofs.YtmhnailcmlomiaaGreatDoor
namespace Go.Proofs.YtmhnailcmlomiaaGreatDoor
open Go.ChangeShapes Go.WideShapes Go.ChangeAt Go.RowKit
set_option linter.unusedVariables false

theorem conv_bytes {w : World} {n j : Nat} {L D : List Nat} {t : TypeId} {fr : Nat × Nat} (hb : w.heap[n]? = some (.cells (nums .u8 L).toArray t fr)) (hT : ∀ i x, D[i]? = some x → L[j + i]? = some x) (m c : Nat) (hm : D.length = m) : Sem.run Tryz.prog (convert 22 9 (.slice (some ⟨n, j, none⟩) m c)) w = .ok (.string (str D)) w := by
  rw [← strOfNums_str]
  refine run_convert_bytes_arg w 22 5 Tryz.underlying22 Tryz.underlying5 n j m c _ (by rw [List.length_map]; exact hm) ?_ 9 Tryz.underlying9
  intro i hi
  have hi' : i < D.length := by omega
  have h1 : L[j + i]? = some D[i] := hT i _ (List.getElem?_eq_getElem hi')
  rw [cell_of_row _ _ _ _ _ _ hb]
  have h2 := nums_get (k := .u8) h1
  simp [List.getD, List.getElem?_eq_getElem hi'] at h2 ⊢
  exact h2
theorem conv_one {w : World} {n d : Nat} {t : TypeId} {fr : Nat × Nat} (hb : w.heap[n]? = some (.cells #[.int .u8 d] t fr)) : Sem.run Tryz.prog (convert 22 9 (.slice (some ⟨n, 0, none⟩) 1 1)) w = .ok (.string (str [d])) w :=
  conv_bytes (L := [d]) (D := [d]) hb (fun i x h => by rw [Nat.zero_add]; exact h) 1 1 rfl
theorem decN_len10 {n : Nat} : n < 2147483648 → (decN n).length ≤ 10 := by
  have key : ∀ k n, n < 10 ^ (k + 1) → (decN n).length ≤ k + 1 := by
    intro k
    induction k with
    | zero => intro n h; rw [decN_small (by simpa using h)]; simp
    | succ k ih =>
      intro n h
      by_cases h1 : n < 10
      · rw [decN_small h1]; simp
      · rw [decN_big (by omega), List.length_append]
        have := ih (n / 10) (by rw [Nat.pow_succ] at h; omega)
        simp; omega
  intro h
  exact key 9 n (by have : (10 : Nat) ^ (9 + 1) = 10000000000 := by decide
                    omega)

set_option maxHeartbeats 4000000 in
set_option maxRecDepth 100000 in
theorem fdec_ref (n : Nat) : n < 2147483648 → ∀ w, Calls Tryz.prog 34 #[.int .i64 n] w fun e w' => e = .returned (.string (str (decN n))) ∧ Fr No w w' := by
  induction n using Nat.strongRecOn with
  | ind n ih =>
    intro hn w
    by_cases h : n < 10
    · have p1 : (n : Int) < 10 := by omega
      have q1 : (0 : Int) ≤ (n : Int) := by omega
      have hc := conv_one (d := 48 + n) (heap_alloc_new w (.cells #[.int .u8 ((48 + n : Nat) : Int)] 5))
      have hcast : ((48 + n : Nat) : Int) = 48 + (n : Int) := by omega
      rw [hcast] at hc
      have HF := Lib.hid (Fr.alloc No w (.cells #[.int .u8 (48 + (n : Int))] 5))
      clear hcast
      go_enter Tryz.func34, Tryz.ntmps34
      go_wp2_with fail
      go_ret
      exact ⟨by rw [decN_small h]; rfl, HF.out⟩
    · have p1 : ¬ (n : Int) < 10 := by omega
      have HI := Lib.hid (fun w => ih (n / 10) (by omega) (by omega) w)
      have hd : n % 10 < 10 := by omega
      have HN : Hid (decN n = decN (n / 10) ++ [48 + n % 10]) := decN_big (by omega)
      have w1 : IntKind.i64.wrap ((n : Int) / 10) = ((n / 10 : Nat) : Int) := by simp [IntKind.wrap, IntKind.bits, IntKind.signed]; omega
      have w2 : (n : Int).tmod 10 = ((n % 10 : Nat) : Int) := by rw [Int.tmod_eq_emod_of_nonneg (by omega)]; omega
      have hl : (str (decN (n / 10))).size ≤ 10 := by
        have := decN_len10 (n := n / 10) (by omega)
        simpa [str, ByteArray.size] using this
      generalize hm : n / 10 = m at HI HN w1 hl
      generalize n % 10 = d at hd HN w2
      clear hm
      have w3 : IntKind.i64.wrap (48 + (d : Int)) = ((48 + d : Nat) : Int) := by simp [IntKind.wrap, IntKind.bits, IntKind.signed]; omega
      have w4 : IntKind.u8.wrap ((48 + d : Nat) : Int) = ((48 + d : Nat) : Int) := by simp [IntKind.wrap, IntKind.bits, IntKind.signed]; omega
      generalize 48 + d = dd at HN w3 w4
      generalize hsm : str (decN m) = sm at hl HI
      have HM := Lib.hid hsm
      have g1 : ¬ 9223372036854775807 < sm.size + (str [dd]).size := by show ¬ 9223372036854775807 < sm.size + 1; omega
      have HC : Hid (∀ (w' : World) (k : Nat), w'.heap[k]? = some (.cells #[.int .u8 dd] 5 (0, 0)) → Sem.run Tryz.prog (convert 22 9 (.slice (some ⟨k, 0, none⟩) 1 1)) w' = .ok (.string (str [dd])) w') := fun w' k hk => conv_one hk
      clear hsm hd h
      go_enter Tryz.func34, Tryz.ntmps34
      go_wp2_with fail
      have hS : Fr No w w.drew := Fr.drew No _
      have hA : Fr No w (w.alloc (.cells #[.int .u8 dd] 5)).drew := (Fr.alloc No w _).trans (Fr.drew No _)
      have hblk : (w.alloc (.cells #[.int .u8 dd] 5)).drew.heap[w.heap.size]? = some (.cells #[.int .u8 dd] 5 (0, 0)) := heap_alloc_new w (.cells #[.int .u8 dd] 5)
      have hc1 := HC.out (w.alloc (.cells #[.int .u8 dd] 5)).drew w.heap.size (heap_alloc_new w (.cells #[.int .u8 dd] 5))
      go_region_law (first
        | (go_simp; go_at_call 34; with_reducible refine (HI.out w.drew).mono ?_; rintro e w5 ⟨rfl, hf5⟩; have hcv := HC.out (w5.alloc (.cells #[.int .u8 dd] 5)) w5.heap.size (heap_alloc_new _ _); have HF5 := Lib.hid ((hS.trans hf5).trans (Fr.alloc No w5 (.cells #[.int .u8 dd] 5))); clear hf5)
        | (go_simp; go_at_call 34; with_reducible refine (HI.out (w.alloc (.cells #[.int .u8 dd] 5)).drew).mono ?_; rintro e w5 ⟨rfl, hf5⟩; have hcv := HC.out w5 w.heap.size (hf5.keep hblk); have hcv2 : Sem.run Tryz.prog (convert 22 9 (.slice (some ⟨w.heap.size, 0, none⟩) 1 1)) w5 = .ok (.string (str [dd])) w5 := hcv; clear hcv; have HF5 := Lib.hid (hA.trans hf5); clear hf5))
      all_goals (
        go_wp2_with fail
        go_ret
        exact ⟨by rw [HN.out, str_app, HM.out]; rfl, HF5.out⟩)
end Go.Proofs.YtmhnailcmlomiaaGreatDoor
