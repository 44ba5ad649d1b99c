/-
  THE WALKS OF HostLengthLimits and HostParsesExactly, over this seat's translation: the call returns true.
  Conditions: the numbers lie in memory; the string is shorter than 2 to the 30; the package variables are as Gl says.
-/
import Derived.Test.YtmhnailcmlomiaaGreatDoorAg
import Derived.Test.YtmhnailcmlomiaaGreatDoorX22
import Derived.Test.YtmhnailcmlomiaaGreatDoorR11
namespace Go.Proofs.YtmhnailcmlomiaaGreatDoor
open Go.ChangeShapes Go.WideShapes Go.ChangeAt Go.RowKit
set_option linter.unusedVariables false

set_option maxHeartbeats 4000000 in
set_option maxRecDepth 100000 in
theorem long_any (ad : Option Addr) (n cp : Nat) (gs : List Nat) (w : World) (hat : At w ad (nums .u8 gs)) (hgl : gs.length = n) (hb : ∀ g ∈ gs, g < 256) :
    Calls Tryz.prog 11 #[.slice ad n cp] w fun e w' => ∃ sb : ByteArray, sb.size ≤ 600 ∧ e = .returned (.string sb) ∧ w' = w := by
  have HG := Lib.hid (And.intro hat (And.intro hgl hb))
  clear hat hgl hb
  go_enter Tryz.func11, Tryz.ntmps11
  go_wp2_with fail
  go_loopg [3, 4] 9 (fun g s3 s4 wr => ∃ (sb : ByteArray) (i : Nat), s3 = .string sb ∧ s4 = .int .i64 i ∧ i ≤ 8 ∧ i ≤ n ∧ 8 - i < g ∧ sb.size ≤ 69 * i ∧ wr = w)
  case atStart => exact ⟨⟨#[]⟩, 0, rfl, by go_num, by omega, by omega, by omega, by decide, rfl⟩
  case round =>
    obtain ⟨sb, i, rfl, rfl, hi8, hin, hig, hsz, rfl⟩ := hrel
    have q1 : (0 : Int) ≤ (i : Int) := by omega
    by_cases hlt : i < n ∧ i < 8
    · obtain ⟨h1, h2⟩ := hlt
      have q2 : (i : Int) < (n : Int) := by omega
      have q3 : (i : Int) < 8 := by omega
      obtain ⟨g, hg⟩ : ∃ g, gs[i]? = some g := ⟨_, List.getElem?_eq_getElem (by rw [HG.out.2.1]; omega)⟩
      obtain ⟨ab, ao, rfl, c1⟩ := HG.out.1 i _ (nums_get hg)
      have hg256 := HG.out.2.2 g (List.mem_of_getElem? hg)
      have w2 : (g : Int).tmod 68 = ((g % 68 : Nat) : Int) := by rw [Int.tmod_eq_emod_of_nonneg (by omega)]; omega
      have hd : g % 68 < 68 := Nat.mod_lt _ (by omega)
      generalize hdd : g % 68 = d at w2 hd
      have g1 : ¬ 9223372036854775807 < sb.size + 1 := by omega
      clear hg hdd
      have key : ∀ sb1 : ByteArray, sb1.size ≤ 69 * i + 1 → True := fun _ _ => trivial
      have hpos : (0 : Int) < (i : Int) ∨ ¬ (0 : Int) < (i : Int) := by omega
      rcases hpos with p1 | p1
      all_goals (
        go_wp2_with fail
        go_loopg [3, 5] (d + 1) (fun g s3 s5 wr2 => ∃ (sb2 : ByteArray) (k : Nat), s3 = .string sb2 ∧ s5 = .int .i64 k ∧ k ≤ d ∧ d - k < g ∧ sb2.size ≤ 69 * i + 1 + k ∧ wr2 = wr)
        case atStart => exact ⟨_, 0, rfl, by go_num, by omega, by omega, by first | (rw [ByteArray.size_append]; show sb.size + 1 ≤ _; omega) | omega, rfl⟩
        case round =>
          obtain ⟨sb2, k, rfl, rfl, hkd, hkg, hsz2, rfl⟩ := hrel
          by_cases hk : k < d
          · have r2 : (k : Int) < (d : Int) := by omega
            have g2 : ¬ 9223372036854775807 < sb2.size + 1 := by omega
            go_wp2_with fail
            go_roundg (d - k)
            case measure => exact hkg
            case rel => exact ⟨_, k + 1, rfl, by go_num, by omega, by omega, by rw [ByteArray.size_append]; show sb2.size + 1 ≤ _; omega, rfl⟩
          · have r2 : ¬ (k : Int) < (d : Int) := by omega
            go_wp2_with fail
            go_roundg (8 - i)
            case measure => exact hig
            case rel => exact ⟨sb2, i + 1, rfl, by go_num, by omega, by omega, by omega, by omega, rfl⟩)
    · have hcase : ¬ (i : Int) < (n : Int) ∨ ((i : Int) < (n : Int) ∧ ¬ (i : Int) < 8) := by omega
      clear hlt
      rcases hcase with h1 | ⟨h1, h2⟩
      all_goals (
        go_wp2_with fail
        go_ret
        exact ⟨sb, by omega, rfl, rfl⟩)

def allH : List Nat := [97, 97, 97, 98, 122, 90, 48, 57, 45, 46, 46, 46, 58, 91, 93, 56]
theorem allH_index (d : Nat) (hd : d < 16) (w : World) : Sem.run Tryz.prog (Instr.index 9 (.string ⟨#[97, 97, 97, 98, 122, 90, 48, 57, 45, 46, 46, 46, 58, 91, 93, 56]⟩) (.int .i64 d)) w = .ok (.int .u8 (allH.getD d 0 : Nat)) w := by
  have h : ∀ d, d < 16 → (oct8 allH)[d]? = some (UInt8.ofNat (allH.getD d 0)) ∧ ((UInt8.ofNat (allH.getD d 0)).toNat : Int) = (allH.getD d 0 : Nat) := by decide
  have h1 := bs_index (h d hd).1 w
  rw [(h d hd).2] at h1
  exact h1

set_option maxHeartbeats 4000000 in
set_option maxRecDepth 100000 in
theorem hchars_any (ad : Option Addr) (n cp : Nat) (gs : List Nat) (w : World) (hat : At w ad (nums .u8 gs)) (hgl : gs.length = n) (hb : ∀ g ∈ gs, g < 256) :
    Calls Tryz.prog 10 #[.slice ad n cp] w fun e w' => ∃ sb : ByteArray, sb.size ≤ 70 ∧ e = .returned (.string sb) ∧ Fr No w w' := by
  have HG := Lib.hid (And.intro hat (And.intro hgl hb))
  clear hat hgl hb
  go_enter Tryz.func10, Tryz.ntmps10
  go_wp2_with fail
  go_loopg [3, 4] 71 (fun g s3 s4 wr => ∃ (a : Option Addr) (c i : Nat), s3 = .slice a i c ∧ s4 = .int .i64 i ∧ i ≤ 70 ∧ i ≤ n ∧ 70 - i < g ∧ Hid ((∃ D, D.length = i ∧ wr.ownsRow w.heap.size 5 1 (.slice a i c) i (nums .u8 D)) ∧ Fr No w wr))
  case atStart => exact ⟨none, 0, 0, rfl, by go_num, by omega, by omega, by omega, ⟨[], rfl, World.ownsRow_nil _ _ _ _⟩, Fr.refl _ _⟩
  case round =>
    obtain ⟨a, c, i, rfl, rfl, hi45, hin, hig, HR⟩ := hrel
    have q1 : (0 : Int) ≤ (i : Int) := by omega
    by_cases hlt : i < n ∧ i < 70
    · obtain ⟨h1, h2⟩ := hlt
      have q2 : (i : Int) < (n : Int) := by omega
      have q3 : (i : Int) < 70 := by omega
      obtain ⟨g, hg⟩ : ∃ g, gs[i]? = some g := ⟨_, List.getElem?_eq_getElem (by rw [HG.out.2.1]; omega)⟩
      obtain ⟨ab, ao, rfl, -⟩ := HG.out.1 i _ (nums_get hg)
      have c1 : wr.cell? ⟨ab, ao + i, none⟩ = some (.int .u8 g) := by
        obtain ⟨b', o', he, hc⟩ := (HG.out.1.frNo HR.out.2) i _ (nums_get hg)
        cases he
        exact hc
      have hg256 := HG.out.2.2 g (List.mem_of_getElem? hg)
      have w2 : (g : Int).tmod 16 = ((g % 16 : Nat) : Int) := by rw [Int.tmod_eq_emod_of_nonneg (by omega)]; omega
      have hd : g % 16 < 16 := Nat.mod_lt _ (by omega)
      have hix := allH_index (g % 16) hd wr
      generalize allH.getD (g % 16) 0 = ch at hix
      generalize g % 16 = d at w2 hd hix
      have hd0 : (0 : Int) ≤ (d : Int) := by omega
      have hd1 : (d : Int) < 16 := by omega
      obtain ⟨D, hD, hown⟩ := HR.out.1
      have HX := Lib.hid (And.intro hown (And.intro HR.out.2 HR.out.2.size))
      clear HR hg hown
      have hbk := heap_alloc_new wr (.cells #[.int .u8 ch] 5)
      have hbf := Fr.alloc No wr (.cells #[.int .u8 ch] 5)
      have HB := Lib.hid (And.intro hbk hbf)
      clear hbk hbf
      go_wp2_with (first | (at_builtin; go_loud (refine wpList_append_vals el8 rfl (.tmp 15) (.tmp 23) rfl w.heap.size _ i _ rfl (row_frNo HX.out.1 HB.out.2) (some ⟨wr.heap.size, 0, none⟩) 1 1 (nums .u8 [ch]) rfl (nums_one _ _) rfl (At.block HB.out.1) (fun h => by cases h) (by unfold maxLen; omega) (by omega) (Nat.le_trans HX.out.2.2 HB.out.2.size) ?_; intro a6 c6 w6 hown6 hg6 hat6; have H6 : Hid (w6.ownsRow w.heap.size 5 1 (.slice a6 (i + 1) c6) (i + 1) (nums .u8 (D ++ [ch])) ∧ Fr No w w6) := ⟨(by rw [nums_append]; exact hown6), (HX.out.2.1.trans HB.out.2).own_grown (row_frNo HX.out.1 HB.out.2) (Nat.le_refl _) hg6⟩; clear hown6 hg6 hat6)) | fail)
      go_roundg (70 - i)
      case measure => exact hig
      case rel => exact ⟨a6, c6, i + 1, rfl, by go_num, by omega, by omega, by omega, ⟨D ++ [ch], by rw [List.length_append, hD]; rfl, H6.out.1⟩, H6.out.2⟩
    · have hcase : ¬ (i : Int) < (n : Int) ∨ ((i : Int) < (n : Int) ∧ ¬ (i : Int) < 70) := by omega
      obtain ⟨D, hD, hown⟩ := HR.out.1
      have HF := Lib.hid HR.out.2
      have hconv : Sem.run Tryz.prog (convert 22 9 (.slice a i c)) wr = .ok (.string (str D)) wr := conv_own hown
      have hsz : (str D).size = i := by rw [← hD]; simp [str, ByteArray.size]
      clear hlt HR hown
      rcases hcase with h1 | ⟨h1, h2⟩
      all_goals (
        go_wp2_with fail
        go_ret
        exact ⟨str D, by omega, rfl, HF.out⟩)
theorem agrees_sb (sb : ByteArray) (hl : sb.size < 2147483648) (w : World) (hG : Gl w) :
    Calls Tryz.prog 9 #[.string sb] w fun e w' => e = .returned (.bool true) ∧ Fr No w w' := by
  have h := agrees_law sb.data.toList (by rw [Array.length_toList]; exact hl) w hG
  rw [← bs_of sb] at h
  exact h

set_option maxHeartbeats 4000000 in
set_option maxRecDepth 100000 in
theorem lens_law (ad : Option Addr) (n cp : Nat) (gs : List Nat) (w : World) (hat : At w ad (nums .u8 gs)) (hgl : gs.length = n) (hb : ∀ g ∈ gs, g < 256) (hG : Gl w) :
    Calls Tryz.prog 4 #[.slice ad n cp] w fun e w' => e = .returned (.bool true) ∧ Fr No w w' := by
  have HL := Lib.hid (long_any ad n cp gs w hat hgl hb)
  have hF := Fr.refl No w
  go_enter Tryz.func4, Tryz.ntmps4
  go_wp2_with (first | (go_at_call 11; go_loud (refine HL.out.mono ?_; rintro e w1 ⟨sb, hsz, rfl, hw1⟩; replace hw1 := hw1.symm; subst hw1; have g1 : ¬ 9223372036854775807 < sb.size + 1 := (by omega); have g2 : ¬ 9223372036854775807 < sb.size + 2 := (by omega); have g3 : ¬ 9223372036854775807 < 1 + sb.size := (by omega))) | (go_at_call 8; go_loud (refine (hawake_any _ hG).mono ?_; rintro e w2 ⟨rfl, h2⟩; have hF := hF.trans h2; have hG := hG.fr h2; clear h2)) | (go_at_call 9; go_loud (with_reducible refine (agrees_sb _ (by (try simp only [ByteArray.size_append]); (have e1 : (⟨#[46]⟩ : ByteArray).size = 1 := rfl); (have e2 : (⟨#[46, 46]⟩ : ByteArray).size = 2 := rfl); (have e3 : (⟨#[120]⟩ : ByteArray).size = 1 := rfl); omega) _ hG).mono ?_; rintro e w3 ⟨rfl, h3⟩; have hF := hF.trans h3; have hG := hG.fr h3; clear h3)) | fail)
  go_ret
  exact ⟨rfl, hF⟩

set_option maxHeartbeats 4000000 in
set_option maxRecDepth 100000 in
theorem exact_law (s : ByteArray) (hs : s.size < 1073741824) (ad : Option Addr) (n cp : Nat) (gs : List Nat) (w : World) (hat : At w ad (nums .u8 gs)) (hgl : gs.length = n) (hb : ∀ g ∈ gs, g < 256) (hG : Gl w) :
    Calls Tryz.prog 3 #[.string s, .slice ad n cp] w fun e w' => e = .returned (.bool true) ∧ Fr No w w' := by
  have HL : Hid (∀ w', Fr No w w' → Calls Tryz.prog 10 #[.slice ad n cp] w' fun e w'' => ∃ sb : ByteArray, sb.size ≤ 70 ∧ e = .returned (.string sb) ∧ Fr No w' w'') := fun w' hf => hchars_any ad n cp gs w' (hat.frNo hf) hgl hb
  have hF := Fr.refl No w
  have g0 : ¬ 9223372036854775807 < s.size + 3 := by omega
  go_enter Tryz.func3, Tryz.ntmps3
  go_wp2_with (first | (go_at_call 8; go_loud (refine (hawake_any _ hG).mono ?_; rintro e w2 ⟨rfl, h2⟩; have hF := hF.trans h2; have hG := hG.fr h2; clear h2)) | (go_at_call 10; refine (HL.out _ hF).mono ?_; rintro e w4 ⟨sb, hsz, rfl, h4⟩; have hF := hF.trans h4; have hG := hG.fr h4; clear h4; have g1 : ¬ 9223372036854775807 < 1 + sb.size := (by omega); have g2 : ¬ 9223372036854775807 < 1 + sb.size + 5 := (by omega)) | (go_at_call 9; go_loud (with_reducible refine (agrees_sb _ (by (try simp only [ByteArray.size_append]); (have e1 : (⟨#[58, 56, 48]⟩ : ByteArray).size = 3 := rfl); (have e2 : (⟨#[91]⟩ : ByteArray).size = 1 := rfl); (have e3 : (⟨#[93, 58, 52, 52, 51]⟩ : ByteArray).size = 5 := rfl); omega) _ hG).mono ?_; rintro e w3 ⟨rfl, h3⟩; have hF := hF.trans h3; have hG := hG.fr h3; clear h3)) | fail)
  go_ret
  exact ⟨rfl, hF⟩
end Go.Proofs.YtmhnailcmlomiaaGreatDoor
