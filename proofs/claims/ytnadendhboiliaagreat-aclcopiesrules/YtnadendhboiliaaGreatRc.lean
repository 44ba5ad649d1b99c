/-
  CONTRACT of slices.Clone at rules, over this seat's translation: a fresh row of the same rules.
  Conditions: at most 32 rules.
-/
import Derived.Test.YtnadendhboiliaaGreatRa
import Derived.Lib.LazyBuf
namespace Go.Proofs.YtnadendhboiliaaGreat
open Go.ChangeShapes Go.WideShapes Go.ChangeAt Go.RowKit
set_option linter.unusedVariables false

set_option maxHeartbeats 2000000 in
set_option maxRecDepth 100000 in
theorem clone_any (L : List Ru) (n : Nat) (hn : L.length = n) (hm : n ≤ 32) (a : Option Addr) (cp : Nat) (w : World) (hr : RowR w a L) :
    Calls Tryz.prog 18 #[.slice a n cp] w fun e w' => ∃ a2 c2, e = .returned (.slice a2 n c2) ∧ RowR w' a2 L ∧ FarR w.heap.size a2 L ∧ Fr No w w' := by
  cases a with
  | none =>
    obtain rfl : L = [] := by
      by_cases h : L = []
      · exact h
      · obtain ⟨b, o, cs, T, f, h1, -⟩ := hr.2 h; cases h1
    obtain rfl : n = 0 := hn.symm
    clear hr hm hn
    go_enter Tryz.func18, Tryz.ntmps18
    have t22 := Tryz.underlying22
    have q1 := fun (w : World) => Lib.run_eql_slice_nil (P := Tryz.prog) w 22 31 none 0 cp 0 0 t22
    go_wp2_with fail
    go_ret
    exact ⟨none, 0, rfl, RowR.nil _ _, fun _ _ h => absurd rfl h, Fr.refl _ _⟩
  | some ad =>
    have HAT := Lib.hid (RowR.at hr)
    have HOK := Lib.hid hr.1
    have hl : (flatR L).length = n * 22 := by rw [flatR_length hr.1, hn]
    have h1 := flatR_one L
    have HR := Lib.hid hr
    have HN := Lib.hid hn
    clear hr hn
    have HF0 : Hid (Fr No w (w.alloc (.cells #[] 31))) := Fr.alloc No w _
    have HO : Hid ((w.alloc (.cells #[] 31)).ownsRow w.heap.size 31 22 (.slice (some ⟨w.heap.size, 0, none⟩) 0 0) 0 []) := World.ownsRow_made w #[] 0 (Nat.le_refl _) (Nat.zero_le _) rfl
    obtain ⟨ys, hys⟩ : ∃ ys, flatR L = ys := ⟨_, rfl⟩
    rw [hys] at HAT hl h1
    have HYS := Lib.hid hys
    clear hys
    go_enter Tryz.func18, Tryz.ntmps18
    have t22 := Tryz.underlying22
    have q1 := fun (w : World) => Lib.run_eql_slice_nil (P := Tryz.prog) w 22 31 (some ad) n cp 0 0 t22
    go_wp2_with (first | (at_builtin; refine wpList_append_many ewR rfl (.tmp 5) (.tmp 6) rfl w.heap.size _ 0 [] rfl HO.out (some ad) n cp ys rfl h1 hl (HAT.out.frNo HF0.out) (fun h => by cases h) (by omega) (by decide) (by simp) ?_; intro a2 c2 w2 ho2 hg2 hb2) | fail)
    go_ret
    have hbs := HF0.out.size
    obtain ⟨h2, h3, h4⟩ := RowR.own HOK.out (base := w.heap.size) (w := w2) (n := n) (cap := c2) (a := a2) (by rw [HYS.out]; simpa using ho2)
    have hf2 : Fr No w w2 := Fr.own_grown_w HF0.out HO.out (Nat.le_refl _) hg2
    exact ⟨_, _, rfl, h2, fun ad he _ => h4 ad he, hf2⟩
end Go.Proofs.YtnadendhboiliaaGreat
