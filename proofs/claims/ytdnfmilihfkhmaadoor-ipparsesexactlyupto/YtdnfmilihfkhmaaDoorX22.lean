/-
  CONTRACTS of addressChars, over this seat's translation: what the call returns.
  Conditions: the numbers lie in memory.
-/
import Derived.Test.YtdnfmilihfkhmaaDoorR11
import Derived.Test.YtdnfmilihfkhmaaDoorAp
import Derived.Test.YtdnfmilihfkhmaaDoorPg
import Derived.Test.YtdnfmilihfkhmaaDoorR2
namespace Go.Proofs.YtdnfmilihfkhmaaDoor
open Go.ChangeShapes Go.WideShapes Go.ChangeAt Go.RowKit
set_option linter.unusedVariables false

def allC : List Nat := [58, 58, 58, 46, 46, 48, 49, 50, 51, 52, 53, 54, 55, 56, 57, 97, 98, 99, 102, 70, 37, 120]
def allS : ByteArray := ⟨#[58, 58, 58, 46, 46, 48, 49, 50, 51, 52, 53, 54, 55, 56, 57, 97, 98, 99, 102, 70, 37, 120]⟩
theorem conv_own {w : World} {base m c : Nat} {a : Option Addr} {D : List Nat} (h : w.ownsRow base 5 1 (.slice a m c) m (nums .u8 D)) : Sem.run Tryd.prog (convert 34 9 (.slice a m c)) w = .ok (.string (str D)) w := by
  have hat := At.own h
  have hm : D.length = m := by have := h.1; rw [nums_length] at this; omega
  rw [← strOfNums_str]
  rcases h.2 with ⟨hv, -⟩ | ⟨g, cap, cur, hv, -⟩
  · cases hv
    obtain rfl : D = [] := List.length_eq_zero_iff.1 hm
    exact run_convert_bytes_nil w 34 5 Tryd.underlying34 Tryd.underlying5 0 0 9 Tryd.underlying9
  · cases hv
    refine run_convert_bytes_arg w 34 5 Tryd.underlying34 Tryd.underlying5 g 0 m c _ (by rw [List.length_map]; exact hm) ?_ 9 Tryd.underlying9
    intro i hi
    have hi' : i < D.length := by omega
    obtain ⟨b', off', he, hc⟩ := hat i _ (nums_get (List.getElem?_eq_getElem hi'))
    cases he
    rw [hc, List.getD, List.getElem?_map, List.getElem?_eq_getElem hi']
    rfl
/-- The signs that the numbers choose. -/
def chars (gs : List Nat) : List Nat := (gs.take 45).map fun g => allC.getD (g % 22) 0
theorem chars_lt (gs : List Nat) : ∀ x ∈ chars gs, x < 256 := by
  intro x hx
  obtain ⟨g, -, rfl⟩ := List.mem_map.1 hx
  have h : ∀ k, k < 22 → allC.getD k 0 < 256 := by decide
  exact h _ (Nat.mod_lt _ (by omega))
theorem allS_index (d : Nat) (hd : d < 22) (w : World) : Sem.run Tryd.prog (Instr.index 9 (.string ⟨#[58, 58, 58, 46, 46, 48, 49, 50, 51, 52, 53, 54, 55, 56, 57, 97, 98, 99, 102, 70, 37, 120]⟩) (.int .i64 d)) w = .ok (.int .u8 (allC.getD d 0 : Nat)) w := by
  have h : ∀ d, d < 22 → (oct8 allC)[d]? = some (UInt8.ofNat (allC.getD d 0)) ∧ ((UInt8.ofNat (allC.getD d 0)).toNat : Int) = (allC.getD d 0 : Nat) := by decide
  have h1 := bs_index (h d hd).1 w
  rw [(h d hd).2] at h1
  exact h1

set_option maxHeartbeats 4000000 in
set_option maxRecDepth 100000 in
theorem chars_any (ad : Option Addr) (n cp : Nat) (gs : List Nat) (w : World) (hat : At w ad (nums .u8 gs)) (hgl : gs.length = n) (hg6 : ∀ g ∈ gs, g < 256) :
    Calls Tryd.prog 22 #[.slice ad n cp] w fun e w' => e = .returned (.string (str (chars gs))) ∧ Fr No w w' := by
  have HG := Lib.hid (And.intro hat (And.intro hgl hg6))
  clear hat hgl hg6
  go_enter Tryd.func22, Tryd.ntmps22
  go_wp2_with fail
  go_loopg [3, 4] 46 (fun g s3 s4 wr => ∃ (a : Option Addr) (c i : Nat), s3 = .slice a i c ∧ s4 = .int .i64 i ∧ i ≤ 45 ∧ i ≤ n ∧ 45 - i < g ∧ Hid (wr.ownsRow w.heap.size 5 1 (.slice a i c) i (nums .u8 (chars (gs.take i))) ∧ Fr No w wr))
  case atStart => exact ⟨none, 0, 0, rfl, by go_num, by omega, by omega, by omega, World.ownsRow_nil _ _ _ _, Fr.refl _ _⟩
  case round =>
    obtain ⟨a, c, i, rfl, rfl, hi45, hin, hig, HR⟩ := hrel
    have q1 : (0 : Int) ≤ (i : Int) := by omega
    by_cases hlt : i < n ∧ i < 45
    · obtain ⟨h1, h2⟩ := hlt
      have q2 : (i : Int) < (n : Int) := by omega
      have q3 : (i : Int) < 45 := by omega
      obtain ⟨g, hg⟩ : ∃ g, gs[i]? = some g := ⟨_, List.getElem?_eq_getElem (by rw [HG.out.2.1]; omega)⟩
      obtain ⟨ab, ao, rfl, -⟩ := HG.out.1 i _ (nums_get hg)
      have c1 : wr.cell? ⟨ab, ao + i, none⟩ = some (.int .u8 g) := by
        obtain ⟨b', o', he, hc⟩ := (HG.out.1.frNo HR.out.2) i _ (nums_get hg)
        cases he
        exact hc
      have hg256 := HG.out.2.2 g (List.mem_of_getElem? hg)
      have w2 : (g : Int).tmod 22 = ((g % 22 : Nat) : Int) := by rw [Int.tmod_eq_emod_of_nonneg (by omega)]; omega
      have hd : g % 22 < 22 := Nat.mod_lt _ (by omega)
      have hix := allS_index (g % 22) hd wr
      have HCH : Hid (chars (gs.take (i + 1)) = chars (gs.take i) ++ [allC.getD (g % 22) 0]) := by
        show _ = _
        rw [chars, chars, List.take_take, List.take_take, show min 45 (i + 1) = i + 1 by omega, show min 45 i = i by omega, List.take_add_one, hg]
        simp
      generalize allC.getD (g % 22) 0 = ch at hix HCH
      generalize g % 22 = d at w2 hd hix
      have hd0 : (0 : Int) ≤ (d : Int) := by omega
      have hd1 : (d : Int) < 22 := by omega
      have HX := Lib.hid (And.intro HR.out.1 (And.intro HR.out.2 HR.out.2.size))
      clear HR hg
      have hbk := heap_alloc_new wr (.cells #[.int .u8 ch] 5)
      have hbf := Fr.alloc No wr (.cells #[.int .u8 ch] 5)
      have HB := Lib.hid (And.intro hbk hbf)
      clear hbk hbf
      go_wp2_with (first | (at_builtin; go_loud (refine wpList_append_vals el8 rfl (.tmp 15) (.tmp 23) rfl w.heap.size _ i _ rfl (row_frNo HX.out.1 HB.out.2) (some ⟨wr.heap.size, 0, none⟩) 1 1 (nums .u8 [ch]) rfl (nums_one _ _) rfl (At.block HB.out.1) (fun h => by cases h) (by unfold maxLen; omega) (by omega) (Nat.le_trans HX.out.2.2 HB.out.2.size) ?_; intro a6 c6 w6 hown6 hg6 hat6; have H6 : Hid (w6.ownsRow w.heap.size 5 1 (.slice a6 (i + 1) c6) (i + 1) (nums .u8 (chars (gs.take (i + 1)))) ∧ Fr No w w6) := ⟨(by rw [HCH.out, nums_append]; exact hown6), (HX.out.2.1.trans HB.out.2).own_grown (row_frNo HX.out.1 HB.out.2) (Nat.le_refl _) hg6⟩; clear hown6 hg6 hat6)) | fail)
      go_roundg (45 - i)
      case measure => exact hig
      case rel => exact ⟨a6, c6, i + 1, rfl, by go_num, by omega, by omega, by omega, H6.out.1, H6.out.2⟩
    · have HALL : Hid (chars (gs.take i) = chars gs ∧ (chars gs).length = i) := by
        have e : chars (gs.take i) = chars gs := by
          rw [chars, chars, List.take_take]
          by_cases h1 : i = n
          · rw [List.take_of_length_le (by rw [HG.out.2.1]; omega), List.take_of_length_le (l := gs) (i := 45) (by rw [HG.out.2.1]; omega)]
          · rw [show i = 45 by omega]; rfl
        refine ⟨e, ?_⟩
        rw [← e, chars, List.length_map, List.length_take, List.length_take, HG.out.2.1]
        omega
      have hcase : ¬ (i : Int) < (n : Int) ∨ ((i : Int) < (n : Int) ∧ ¬ (i : Int) < 45) := by omega
      have HX := Lib.hid (And.intro HR.out.1 HR.out.2)
      have hconv : Sem.run Tryd.prog (convert 34 9 (.slice a i c)) wr = .ok (.string (str (chars gs))) wr := by
        have hown := HX.out.1
        rw [HALL.out.1] at hown
        exact conv_own hown
      clear hlt HR
      rcases hcase with h1 | ⟨h1, h2⟩
      all_goals (
        go_wp2_with fail
        go_ret
        exact ⟨rfl, HX.out.2⟩)
end Go.Proofs.YtdnfmilihfkhmaaDoor
