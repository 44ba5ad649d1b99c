/-
  THE WALKS OF HostLengthLimits and HostParsesExactly, over this seat's translation: the call returns true.
  Conditions: the numbers lie in memory; the string is shorter than 2 to the 30; the package variables are as Gl says.
-/
import Derived.Test.YtmhnailcmlomiaaGreatDoorAg
import Derived.Test.YtmhnailcmlomiaaGreatDoorLn
namespace Go.Proofs.YtmhnailcmlomiaaGreatDoor
open Go.ChangeShapes Go.WideShapes Go.ChangeAt Go.RowKit
set_option linter.unusedVariables false

theorem agrees_sb (sb : ByteArray) (hl : sb.size < 2147483648) (w : World) (hG : Gl w) :
    Calls Tryz.prog 9 #[.string sb] w fun e w' => e = .returned (.bool true) ∧ Fr No w w' := by
  have h := agrees_law sb.data.toList (by rw [Array.length_toList]; exact hl) w hG
  rw [← bs_of sb] at h
  exact h

set_option maxHeartbeats 4000000 in
set_option maxRecDepth 100000 in
theorem lens_law (ad : Option Addr) (n cp : Nat) (gs : List Nat) (w : World) (hat : At w ad (nums .u8 gs)) (hgl : gs.length = n) (hb : ∀ g ∈ gs, g < 256) (hG : Gl w) :
    Calls Tryz.prog 4 #[.slice ad n cp] w fun e w' => e = .returned (.bool true) ∧ Fr No w w' := by
  have HL := Lib.hid (long_any ad n cp gs w hat hgl hb)
  have hF := Fr.refl No w
  go_enter Tryz.func4, Tryz.ntmps4
  go_wp2_with (first | (go_at_call 11; go_loud (refine HL.out.mono ?_; rintro e w1 ⟨sb, hsz, rfl, hw1⟩; replace hw1 := hw1.symm; subst hw1; have g1 : ¬ 9223372036854775807 < sb.size + 1 := (by omega); have g2 : ¬ 9223372036854775807 < sb.size + 2 := (by omega); have g3 : ¬ 9223372036854775807 < 1 + sb.size := (by omega))) | (go_at_call 8; go_loud (refine (hawake_any _ hG).mono ?_; rintro e w2 ⟨rfl, h2⟩; have hF := hF.trans h2; have hG := hG.fr h2; clear h2)) | (go_at_call 9; go_loud (with_reducible refine (agrees_sb _ (by (try simp only [ByteArray.size_append]); (have e1 : (⟨#[46]⟩ : ByteArray).size = 1 := rfl); (have e2 : (⟨#[46, 46]⟩ : ByteArray).size = 2 := rfl); (have e3 : (⟨#[120]⟩ : ByteArray).size = 1 := rfl); omega) _ hG).mono ?_; rintro e w3 ⟨rfl, h3⟩; have hF := hF.trans h3; have hG := hG.fr h3; clear h3)) | fail)
  go_ret
  exact ⟨rfl, hF⟩

set_option maxHeartbeats 4000000 in
set_option maxRecDepth 100000 in
theorem exact_law (s : ByteArray) (hs : s.size < 1073741824) (ad : Option Addr) (n cp : Nat) (gs : List Nat) (w : World) (hat : At w ad (nums .u8 gs)) (hgl : gs.length = n) (hb : ∀ g ∈ gs, g < 256) (hG : Gl w) :
    Calls Tryz.prog 3 #[.string s, .slice ad n cp] w fun e w' => e = .returned (.bool true) ∧ Fr No w w' := by
  have HL : Hid (∀ w', Fr No w w' → Calls Tryz.prog 10 #[.slice ad n cp] w' fun e w'' => ∃ sb : ByteArray, sb.size ≤ 70 ∧ e = .returned (.string sb) ∧ Fr No w' w'') := fun w' hf => hchars_any ad n cp gs w' (hat.frNo hf) hgl hb
  have hF := Fr.refl No w
  have g0 : ¬ 9223372036854775807 < s.size + 3 := by omega
  go_enter Tryz.func3, Tryz.ntmps3
  go_wp2_with (first | (go_at_call 8; go_loud (refine (hawake_any _ hG).mono ?_; rintro e w2 ⟨rfl, h2⟩; have hF := hF.trans h2; have hG := hG.fr h2; clear h2)) | (go_at_call 10; refine (HL.out _ hF).mono ?_; rintro e w4 ⟨sb, hsz, rfl, h4⟩; have hF := hF.trans h4; have hG := hG.fr h4; clear h4; have g1 : ¬ 9223372036854775807 < 1 + sb.size := (by omega); have g2 : ¬ 9223372036854775807 < 1 + sb.size + 5 := (by omega)) | (go_at_call 9; go_loud (with_reducible refine (agrees_sb _ (by (try simp only [ByteArray.size_append]); (have e1 : (⟨#[58, 56, 48]⟩ : ByteArray).size = 3 := rfl); (have e2 : (⟨#[91]⟩ : ByteArray).size = 1 := rfl); (have e3 : (⟨#[93, 58, 52, 52, 51]⟩ : ByteArray).size = 5 := rfl); omega) _ hG).mono ?_; rintro e w3 ⟨rfl, h3⟩; have hF := hF.trans h3; have hG := hG.fr h3; clear h3)) | fail)
  go_ret
  exact ⟨rfl, hF⟩
end Go.Proofs.YtmhnailcmlomiaaGreatDoor
