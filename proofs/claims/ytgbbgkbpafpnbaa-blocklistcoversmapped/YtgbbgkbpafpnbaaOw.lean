/-
  CONTRACT of Overwrite at prefixes, over this seat's translation: it writes into the row that it is given alone.
  Conditions: the row is the call's own.
-/
import Derived.Test.YtgbbgkbpafpnbaaEq
import Derived.Test.YtgbbgkbpafpnbaaGb
import Derived.Test.YtgbbgkbpafpnbaaTm
namespace Go.Proofs.Ytgbbgkbpafpnbaa
open Go.ChangeShapes Go.WideShapes Go.ChangeAt Go.RowKit
set_option linter.unusedVariables false

theorem store_at' {P : Program} {w : World} {B o : Nat} {cs : Array Value} {t : TypeId} (xs : List Value) (h : w.heap[B]? = some (.cells cs t (0, 0))) (hl : o + xs.length ≤ cs.size) (h1 : ∀ u ∈ xs, u.oneCell' = true) :
    ∃ y, Sem.run P (storeCells ⟨B, o, none⟩ xs 0) w = .ok () y ∧ (∃ c2, y.heap[B]? = some (.cells c2 t (0, 0)) ∧ c2.size = cs.size) ∧ Fr (fun k => k = B) w y := by
  obtain ⟨y, h2, h3, h4⟩ := store_at xs h hl h1
  refine ⟨y, h2, ⟨_, h3, ?_⟩, h4⟩
  simp
  omega
set_option maxHeartbeats 1000000 in
set_option maxRecDepth 100000 in
theorem overwrite_any {base n cp : Nat} {ad : Option Addr} {xs : List Value} {w : World} (h : w.ownsRow base 28 18 (.slice ad n cp) n xs) (hn : n ≤ 100000) (hbs : base ≤ w.heap.size) :
    Calls Try.prog 15 #[.slice ad n cp] w fun e w' => e = .returned (.tuple #[]) ∧ Fr (fun k => base ≤ k) w w' := by
  obtain ⟨Z, hZ⟩ : ∃ Z : Array Value, noP.toArray = Z := ⟨_, rfl⟩
  have v31 := zero28
  rw [hZ] at v31
  have hZs : Z.size = 18 := by rw [← hZ]; rfl
  have hZ1 : ∀ u ∈ Z.toList, u.oneCell' = true := by rw [← hZ]; exact pfx_one _ _ _
  have HS : Hid (0 < n → ∃ g o cur, ad = some ⟨g, o, none⟩ ∧ base ≤ g ∧ g < w.heap.size ∧ w.heap[g]? = some (.cells cur 28 (0, 0)) ∧ o + n * 18 ≤ cur.size) := fun h0 => by
    rcases h.2 with ⟨hv, hz⟩ | ⟨g, cap, cur, hv, hb, hg, h1, h2, h3, h4⟩
    · omega
    · cases hv
      exact ⟨g, 0, cur, rfl, hb, some_lt hg, hg, by rw [h3]; omega⟩
  have HW := Lib.hid (And.intro hbs hZ1)
  clear h hbs hZ1 hZ
  go_enter Try.func15, Try.ntmps15
  have t3 := Try.underlying3
  have u3 := Try.runUnderlying3
  have g3 := Try.isAgg3
  have z3 := Try.sizeOf3
  have t28 := Try.underlying28
  have u28 := Try.runUnderlying28
  have g28 := Try.isAgg28
  have z28 := Try.sizeOf28
  have t25 := Try.underlying25
  have u25 := Try.runUnderlying25
  have g25 := Try.isAgg25
  have z25 := Try.sizeOf25
  have mixed : Try.prog.follows .mixedOrders = true := by kernel_rfl
  obtain ⟨k40, hk40⟩ : ∃ k, k = 18 := ⟨_, rfl⟩
  rw [← hk40] at z28
  have nk40 : ¬ k40 = 0 := by omega
  have HK28 := Lib.hid hk40
  have hP : Try.prog = PD := rfl
  rw [hP] at t3 u3 g3 z3 t28 u28 g28 z28 t25 u25 g25 z25 mixed v31 ⊢
  have HP := Lib.hid hP.symm
  clear hP hk40
  have hZk : Z.size = k40 := by rw [HK28.out]; exact hZs
  go_wp2_with fail
  go_loopg [3] (n + 1) (fun g s wr => ∃ (i : Nat), s = .int .i64 i ∧ i ≤ n ∧ n - i < g ∧ Hid (Fr (fun k => base ≤ k) w wr ∧ wr.heap[w.heap.size]? = some (.cells Z 28 (0, 0)) ∧ (0 < n → ∃ g o cur, ad = some ⟨g, o, none⟩ ∧ base ≤ g ∧ g < w.heap.size ∧ wr.heap[g]? = some (.cells cur 28 (0, 0)) ∧ o + n * 18 ≤ cur.size)))
  case atStart =>
    refine ⟨0, by go_num, by omega, by omega, Fr.alloc _ _ _, heap_alloc_new w _, fun h0 => ?_⟩
    obtain ⟨g, o, cur, h1, h2, h3, h4, h5⟩ := HS.out h0
    exact ⟨g, o, cur, h1, h2, h3, (Fr.alloc No w _).keep h4, h5⟩
  case round =>
    obtain ⟨i, rfl, hin, hig, HR⟩ := hrel
    by_cases hi : i < n
    · obtain ⟨hf, hz, hq⟩ := HR.out
      obtain ⟨g, o, cur, rfl, h2, h3, h4, h5⟩ := hq (by omega)
      have lz : Sem.run PD (loadCellsFrom ⟨w.heap.size, 0, none⟩ 0 k40 #[]) wr = .ok Z wr := load_block hz hZk (fun j v hv => by simpa using hv)
      obtain ⟨y, hst, ⟨cs, hyb, hys⟩, hyf⟩ := store_at' (P := PD) (o := o + i * k40) Z.toList h4 (by rw [Array.length_toList, hZs, HK28.out]; omega) HW.out.2
      have HG := Lib.hid (And.intro hf (And.intro hz (And.intro h2 (And.intro h3 (And.intro h5 (And.intro hyb (And.intro hys hyf)))))))
      have p1 : (0 : Int) ≤ (i : Int) := by omega
      have p2 : (i : Int) < (n : Int) := by omega
      clear hf hz hq h2 h3 h4 h5 hyb hys hyf hZs
      go_wp2_with fail
      go_roundg (n - i)
      case measure => exact hig
      case rel =>
        obtain ⟨hf, hz, h2, h3, h5, hyb, hys, hyf⟩ := HG.out
        refine ⟨i + 1, by go_num, by omega, by omega, hf.trans (hyf.mono fun k _ hk => by rw [hk]; exact h2), (hyf.block _ (some_lt hz) (fun hc => by omega)).trans hz, fun _ => ⟨g, o, cs, rfl, h2, h3, hyb, by rw [hys]; exact h5⟩⟩
    · obtain rfl : i = n := by omega
      have p2 : ¬ ((i : Int) < (i : Int)) := by omega
      go_wp2_with fail
      go_end0
      exact ⟨rfl, HR.out.1⟩
end Go.Proofs.Ytgbbgkbpafpnbaa
