/-
  CONTRACTS of longestZeros, over this seat's translation: what the call returns.
  Conditions: eight groups.
-/
import Derived.Test.YtdnfmilihfkhmaaDoorGr
namespace Go.Proofs.YtdnfmilihfkhmaaDoor
open Go.ChangeShapes Go.WideShapes Go.ChangeAt Go.RowKit
set_option linter.unusedVariables false

/-- The scan for the longest run of zeros: the groups left, the place, the best start and length, the run at hand. -/
def scanZ : List Nat → Nat → Nat → Nat → Nat → Nat × Nat
  | [], _, s, l, _ => (s, l)
  | g :: gs, i, s, l, r => if g ≠ 0 then scanZ gs (i + 1) s l 0 else if l < r + 1 then scanZ gs (i + 1) (i - r) (r + 1) (r + 1) else scanZ gs (i + 1) s l (r + 1)

theorem scanZ_step {gs : List Nat} {i g : Nat} (h : gs[i]? = some g) (s l r : Nat) : scanZ (gs.drop i) i s l r = if g ≠ 0 then scanZ (gs.drop (i + 1)) (i + 1) s l 0 else if l < r + 1 then scanZ (gs.drop (i + 1)) (i + 1) (i - r) (r + 1) (r + 1) else scanZ (gs.drop (i + 1)) (i + 1) s l (r + 1) := by
  obtain ⟨h1, e1⟩ := List.getElem?_eq_some_iff.1 h
  rw [List.drop_eq_getElem_cons h1, e1]
  rfl

theorem index_arr {A : Array Value} {i g : Nat} (h : A[i]? = some (.int .u16 g)) (hi : i < 8) (w : World) : Sem.run Tryd.prog (Instr.index 73 (.agg A) (.int .i64 i)) w = .ok (.int .u16 g) w := by
  have h1 : (0 : Int) ≤ (i : Int) ∧ (i : Int) < 8 := by omega
  simp [Instr.index, asIntOf, run_underlying Tryd.underlying73, Tryd.sizeOf39, part, Tryd.isAgg39, h1, h]
  omega

set_option maxHeartbeats 2000000 in
set_option maxRecDepth 100000 in
theorem longest_any (gs : List Nat) (h8 : gs.length = 8) (w : World) :
    Calls Tryd.prog 62 #[.agg (nums .u16 gs).toArray] w fun e w' => e = .returned (.tuple #[.int .i64 ((scanZ gs 0 0 0 0).1 : Nat), .int .i64 ((scanZ gs 0 0 0 0).2 : Nat)]) ∧ Fr No w w' := by
  have hj : ∀ i g : Nat, gs[i]? = some g → (nums .u16 gs).toArray[i]? = some (.int .u16 g) := fun i g h => by simpa using nums_get (k := .u16) h
  have hsz : (nums .u16 gs).toArray.size = 8 := by simp [nums, h8]
  have hl1 : Sem.run Tryd.prog (loadCellsFrom ⟨w.heap.size, 0, none⟩ 0 8 #[]) (w.alloc (.cells (nums .u16 gs).toArray 73)) = .ok (nums .u16 gs).toArray (w.alloc (.cells (nums .u16 gs).toArray 73)) := load_all (heap_alloc_new w _) (by simpa using hsz)
  generalize (nums .u16 gs).toArray = A at hj hsz hl1 ⊢
  have HF : Hid (Fr No w (w.alloc (.cells A 73))) := Fr.alloc No _ _
  have HS := Lib.hid (And.intro h8 hj)
  clear h8 hj hsz
  go_enter Tryd.func62, Tryd.ntmps62
  have t3 := Tryd.underlying3
  have u3 := Tryd.runUnderlying3
  have g3 := Tryd.isAgg3
  have z3 := Tryd.sizeOf3
  have t39 := Tryd.underlying39
  have u39 := Tryd.runUnderlying39
  have g39 := Tryd.isAgg39
  have z39 := Tryd.sizeOf39
  have t73 := Tryd.underlying73
  have u73 := Tryd.runUnderlying73
  have g73 := Tryd.isAgg73
  have z73 := Tryd.sizeOf73
  have mixed : Tryd.prog.follows .mixedOrders = true := by kernel_rfl
  obtain ⟨k55, hk55⟩ : ∃ k, k = 8 := ⟨_, rfl⟩
  rw [← hk55] at z73
  have nk55 : ¬ k55 = 0 := by omega
  have HK73 := Lib.hid hk55
  have hP : Tryd.prog = PD := rfl
  rw [hP] at t3 u3 g3 z3 t39 u39 g39 z39 t73 u73 g73 z73 mixed hl1 ⊢
  have HP := Lib.hid hP.symm
  clear hP hk55
  rw [← HK73.out] at hl1
  go_wp2_with fail
  clear hl1
  generalize w.alloc (.cells A 73) = w1 at HF ⊢
  generalize w.heap.size = n
  go_loopg [2, 3, 4, 8] 9 (fun g s2 s3 s4 s8 wr => ∃ s l r i : Nat, s2 = .int .i64 s ∧ s3 = .int .i64 l ∧ s4 = .int .i64 r ∧ s8 = .int .i64 i ∧ i ≤ 8 ∧ 8 - i < g ∧ r ≤ i ∧ l ≤ 8 ∧ Hid (wr = w1 ∧ scanZ (gs.drop i) i s l r = scanZ gs 0 0 0 0))
  case atStart => exact ⟨0, 0, 0, 0, rfl, rfl, rfl, rfl, by omega, by omega, by omega, by omega, rfl, rfl⟩
  case round =>
    obtain ⟨s, l, r, i, rfl, rfl, rfl, rfl, hi8, hig, hri, hl8, HR⟩ := hrel
    by_cases hi : i = 8
    · subst hi
      go_wp2_with fail
      go_ret2
      have h := HR.out.2
      rw [List.drop_of_length_le (by rw [HS.out.1]; omega)] at h
      exact ⟨by rw [← h]; rfl, by rw [HR.out.1]; exact HF.out⟩
    · obtain ⟨g, hg⟩ : ∃ g, gs[i]? = some g := ⟨_, List.getElem?_eq_getElem (by rw [HS.out.1]; omega)⟩
      have c1 : Sem.run PD (Instr.index 73 (.agg A) (.int .i64 i)) wr = .ok (.int .u16 g) wr := index_arr (HS.out.2 i g hg) (by omega) wr
      have q1 : (0 : Int) ≤ (i : Int) := by omega
      have q2 : (i : Int) < 8 := by omega
      have HV := Lib.hid (HR.out.2.symm.trans (scanZ_step hg s l r))
      by_cases hg0 : g = 0
      · subst hg0
        by_cases hlr : l < r + 1
        · have p1 : (l : Int) < (r : Int) + 1 := by omega
          go_wp2_with fail
          go_roundg (8 - i)
          case measure => exact hig
          case rel => exact ⟨i - r, r + 1, r + 1, i + 1, by go_num, by go_num, by go_num, by go_num, by omega, by omega, by omega, by omega, HR.out.1, by rw [HV.out, if_neg (by simp), if_pos hlr]⟩
        · have p1 : ¬ (l : Int) < (r : Int) + 1 := by omega
          go_wp2_with fail
          go_roundg (8 - i)
          case measure => exact hig
          case rel => exact ⟨s, l, r + 1, i + 1, rfl, rfl, by go_num, by go_num, by omega, by omega, by omega, by omega, HR.out.1, by rw [HV.out, if_neg (by simp), if_neg hlr]⟩
      · have p1 : ¬ (g : Int) = 0 := by omega
        go_wp2_with fail
        go_roundg (8 - i)
        case measure => exact hig
        case rel => exact ⟨s, l, 0, i + 1, rfl, rfl, rfl, by go_num, by omega, by omega, by omega, by omega, HR.out.1, by rw [HV.out, if_pos hg0]⟩
end Go.Proofs.YtdnfmilihfkhmaaDoor
