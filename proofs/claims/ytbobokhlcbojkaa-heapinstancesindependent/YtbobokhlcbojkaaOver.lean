/-
  CONTRACT of Overwrite at integers, over this seat's translation: it writes into the row that it is given alone.
  Conditions: the row is a whole block of integers.
-/
import Derived.Test.YtbobokhlcbojkaaSort
namespace Go.Proofs.Ytbobokhlcbojkaa
open Go.ChangeShapes Go.WideShapes Go.ChangeAt Go.RowKit Go.Maps
set_option linter.unusedVariables false

set_option maxHeartbeats 1000000 in
set_option maxRecDepth 100000 in
theorem overwrite_any (rb n : Nat) (w : World) (hn : n ≤ 1000) (h : ∃ c : Array Value, w.heap[rb]? = some (.cells c 3 (0, 0)) ∧ c.size = n) :
    Calls Try.prog 36 #[.slice (some ⟨rb, 0, none⟩) n n] w fun e w' => e = .returned (.tuple #[]) ∧ Fr (fun k => k = rb) w w' := by
  have HS := Lib.hid h
  clear h
  go_enter Try.func36, Try.ntmps36
  go_wp2_with fail
  go_loopg [3] (n + 1) (fun g s wr => ∃ (i : Nat), s = .int .i64 i ∧ i ≤ n ∧ n - i < g ∧ Hid (Fr (fun k => k = rb) w wr ∧ ∃ c : Array Value, wr.heap[rb]? = some (.cells c 3 (0, 0)) ∧ c.size = n))
  case atStart => exact ⟨0, by go_num, by omega, by omega, Fr.refl _ _, HS.out⟩
  case round =>
    obtain ⟨i, rfl, hin, hig, HR⟩ := hrel
    by_cases hi : i < n
    · obtain ⟨hf, c, hc, hsz⟩ := HR.out
      obtain ⟨v0, r0⟩ : ∃ v, wr.cell? ⟨rb, i, none⟩ = some v := ⟨c[i]'(by omega), by rw [cell_of_row wr _ i _ _ _ hc]; exact Array.getElem?_eq_getElem (by omega)⟩
      have z0 := frozen_of_row wr rb i _ _ hc
      have HG := Lib.hid (And.intro hf (And.intro hc hsz))
      have p1 : (0 : Int) ≤ (i : Int) := by omega
      have p2 : (i : Int) < (n : Int) := by omega
      clear hf hc hsz
      go_wp2_with fail
      go_roundg (n - i)
      case measure => exact hig
      case rel =>
        obtain ⟨hf, hc, hsz⟩ := HG.out
        exact ⟨i + 1, by go_num, by omega, by omega, hf.trans (Fr.setCell _ wr ⟨rb, i, none⟩ _ rfl), _, heap_setCell_same wr rb i _ _ _ hc, by simpa using hsz⟩
    · obtain rfl : i = n := by omega
      have p2 : ¬ ((i : Int) < (i : Int)) := by omega
      go_wp2_with fail
      go_end0
      exact ⟨rfl, HR.out.1⟩

end Go.Proofs.Ytbobokhlcbojkaa
