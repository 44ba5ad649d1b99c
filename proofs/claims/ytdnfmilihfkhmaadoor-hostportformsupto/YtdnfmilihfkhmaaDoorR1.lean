/-
  CONTRACTS of the reference's FormatHex, over this seat's translation: what the call returns.
  Conditions: the number is below 65536.
-/
import Derived.Test.YtdnfmilihfkhmaaDoorH1
import Derived.Deep.RegionHeld3
namespace Go.Proofs.YtdnfmilihfkhmaaDoor
open Go.ChangeShapes Go.WideShapes Go.ChangeAt Go.RowKit
set_option linter.unusedVariables false

theorem hexN_len4 : ∀ n : Nat, n < 65536 → (hexN n).length ≤ 4 := by
  intro n h
  have h1 : ∀ n, n < 16 → (hexN n).length = 1 := fun n h => by rw [hexN_small h]; rfl
  have h2 : ∀ n, n < 256 → (hexN n).length ≤ 2 := fun n h => by
    by_cases h' : n < 16
    · rw [h1 n h']; omega
    · rw [hexN_big (by omega), List.length_append, h1 _ (by omega)]; simp
  have h3 : ∀ n, n < 4096 → (hexN n).length ≤ 3 := fun n h => by
    by_cases h' : n < 16
    · rw [h1 n h']; omega
    · rw [hexN_big (by omega), List.length_append]; have := h2 (n / 16) (by omega); simp; omega
  by_cases h' : n < 16
  · rw [h1 n h']; omega
  · rw [hexN_big (by omega), List.length_append]; have := h3 (n / 16) (by omega); simp; omega

theorem str_app (xs ys : List Nat) : str (xs ++ ys) = str xs ++ str ys := by
  unfold str
  apply ByteArray.ext
  simp

theorem hexs_slice : ∀ d, d < 16 → (⟨#[48, 49, 50, 51, 52, 53, 54, 55, 56, 57, 97, 98, 99, 100, 101, 102]⟩ : ByteArray).extract d (d + 1) = str [hexD d] := by
  have h : ∀ d, d < 16 → ((⟨#[48, 49, 50, 51, 52, 53, 54, 55, 56, 57, 97, 98, 99, 100, 101, 102]⟩ : ByteArray).extract d (d + 1)).data.toList = (str [hexD d]).data.toList := by decide
  intro d hd
  have h1 := h d hd
  exact ByteArray.ext (Array.toList_inj.1 h1)

set_option maxHeartbeats 2000000 in
set_option maxRecDepth 100000 in
theorem fhex_ref (n : Nat) : n < 65536 → ∀ w, Calls Tryd.prog 42 #[.int .i64 n] w fun e w' => e = .returned (.string (str (hexN n))) ∧ Fr No w w' := by
  induction n using Nat.strongRecOn with
  | ind n ih =>
    intro hn w
    by_cases h : n < 16
    · have p1 : (n : Int) < 16 := by omega
      have q1 : (0 : Int) ≤ (n : Int) := by omega
      have q2 : (n : Int) + 1 ≤ 16 := by omega
      have q3 : (n : Int) ≤ (n : Int) + 1 := by omega
      have HS := Lib.hid (hexs_slice n h)
      go_enter Tryd.func42, Tryd.ntmps42
      go_wp2_with fail
      rw [HS.out]
      go_ret
      exact ⟨by rw [hexN_small h]; rfl, Fr.refl _ _⟩
    · have p1 : ¬ (n : Int) < 16 := by omega
      have HI := Lib.hid (fun w => ih (n / 16) (by omega) (by omega) w)
      have hd : n % 16 < 16 := by omega
      have HN : Hid (hexN n = hexN (n / 16) ++ [hexD (n % 16)]) := hexN_big (by omega)
      have w1 : IntKind.i64.wrap ((n : Int) / 16) = ((n / 16 : Nat) : Int) := by simp [IntKind.wrap, IntKind.bits, IntKind.signed]; omega
      have w2 : (n : Int).tmod 16 = ((n % 16 : Nat) : Int) := by rw [Int.tmod_eq_emod_of_nonneg (by omega)]; omega
      have hl : (str (hexN (n / 16))).size ≤ 4 := by
        have := hexN_len4 (n / 16) (by omega)
        simpa [str, ByteArray.size] using this
      have HS := Lib.hid (hexs_slice (n % 16) hd)
      generalize hm : n / 16 = m at HI HN w1 hl
      generalize n % 16 = d at hd HN w2 HS
      clear hm
      generalize hsm : str (hexN m) = sm at hl HI
      have HM := Lib.hid hsm
      have w3 : IntKind.i64.wrap ((d : Int) + 1) = (d : Int) + 1 := by simp [IntKind.wrap, IntKind.bits, IntKind.signed]; omega
      have q1 : (0 : Int) ≤ (d : Int) := by omega
      have q2 : (d : Int) + 1 ≤ 16 := by omega
      have q3 : (d : Int) ≤ (d : Int) + 1 := by omega
      have hx : ((⟨#[48, 49, 50, 51, 52, 53, 54, 55, 56, 57, 97, 98, 99, 100, 101, 102]⟩ : ByteArray).extract d (d + 1)).size = 1 := by rw [HS.out]; rfl
      have g1 : ¬ 9223372036854775807 < sm.size + 1 := by omega
      clear hsm hd h
      go_enter Tryd.func42, Tryd.ntmps42
      go_wp2_with fail
      have hS : Fr No w w.drew := Fr.drew No _
      go_region_held3 (fun w' => Fr No w w') (assumption) (first | (go_at_call 42; with_reducible refine (HI.out w.drew).mono ?_; rintro e w3 ⟨rfl, hf3⟩; have hS3 := hS.trans hf3; clear hf3))
      go_wp2_with fail
      go_ret
      exact ⟨by rw [HN.out, str_app, HM.out, HS.out]; rfl, hS3⟩
end Go.Proofs.YtdnfmilihfkhmaaDoor
