/-
  CONTRACTS of the method Min of the heap at addresses, over this seat's translation: what each call returns, what it leaves in memory.
  Conditions: the heap lies in memory as HeapAt says, in order.
-/
import Derived.Test.YtbobokhlcbojkaaA3
import Derived.Test.YtbobokhlcbojkaaBl
import Derived.Test.YtbobokhlcbojkaaSort
namespace Go.Proofs.Ytbobokhlcbojkaa.A
open Go.ChangeShapes Go.WideShapes Go.ChangeAt Go.RowKit Go.Maps
set_option linter.unusedVariables false

def zx : Array Value := #[.bool false, .int .u8 0, .int .u8 0, .int .u8 0, .int .u8 0, .int .u8 0, .int .u8 0, .int .u8 0, .int .u8 0, .int .u8 0, .int .u8 0, .int .u8 0, .int .u8 0, .int .u8 0, .int .u8 0, .int .u8 0, .int .u8 0]
def ze : Array Value := #[.int .u64 0, .int .i64 0, .bool false, .int .u8 0, .int .u8 0, .int .u8 0, .int .u8 0, .int .u8 0, .int .u8 0, .int .u8 0, .int .u8 0, .int .u8 0, .int .u8 0, .int .u8 0, .int .u8 0, .int .u8 0, .int .u8 0, .int .u8 0, .int .u8 0]
theorem zx_run (w : World) : Sem.run Try.prog (zeroValue 61) w = .ok (.agg zx) w := Try.zeroValue61 w
theorem ze_run (w : World) : Sem.run Try.prog (zeroValue 102) w = .ok (.agg ze) w := Try.zeroValue102 w
theorem zx_size : zx.size = 17 := rfl
theorem ze_size : ze.size = 19 := rfl

theorem get_tail {d i : Value} {cs : Array Value} : ∀ j v, cs[j]? = some v → (d :: i :: cs.toList).toArray[2 + j]? = some v := by
  intro j v hv
  rw [Nat.add_comm]
  simpa using hv

theorem results_min {P : Program} {fn : Func} (h : fn.results = #[.tmp 2, .tmp 3, .cell 4 61, .tmp 5]) (tmps : Array Value) {w : World} {b n : Nat} {cs : Array Value} (hg : Sem.run P (isAgg 61) w = .ok true w) (hz : Sem.run P (Go.sizeOf 61) w = .ok n w)
    (hp : tmps.getD 4 undef = .pointer (some ⟨b, 0, none⟩)) (hl : Sem.run P (loadCellsFrom ⟨b, 0, none⟩ 0 n #[]) w = .ok cs w) :
    (results fn tmps).run P w = .ok (.tuple #[tmps.getD 2 undef, tmps.getD 3 undef, .agg cs, tmps.getD 5 undef]) w := by
  simp only [results, h]
  simp [Sem.run_bind, Result.andThen, loadVar, loadCells] at hp ⊢
  simp [hp, asAddr, hg, hz, hl]

set_option maxHeartbeats 1000000 in
set_option maxRecDepth 100000 in
theorem min_some (hb mb : Nat) (sv : Value) (A : List Ent) (last : Int) (e0 : Ent) (w : World) (h : HA w hb mb sv A last) (h0 : A[0]? = some e0) :
    Calls Try.prog 57 #[.pointer (some ⟨hb, 0, none⟩)] w fun e w' => e = .returned (.tuple #[.int .i64 e0.id, .int .u64 e0.due, e0.val, .bool true]) ∧ Fr No w w' := by
  have h0l : 0 < A.length := (List.getElem?_eq_some_iff.1 h0).1
  have hlen := h.good.len
  obtain ⟨⟨D, hr, ht⟩, hg⟩ := h
  obtain ⟨g, cap, rfl⟩ := hr.form (by omega)
  obtain ⟨c0, -, -⟩ := hr.hcell
  have hlt := hr.lt
  obtain ⟨d, i, v⟩ := e0
  obtain ⟨cs, rfl, hcs, hc1⟩ := hg.val 0 _ h0
  have hr1 := hr.alloc (.cells zx 61)
  have l0 := hr1.load h0 Try.prog
  have hE1 := enc_one (hg.val 0 _ h0)
  rw [Nat.zero_mul] at l0
  rw [enc_mk d i hcs] at l0 hE1
  have lE : (Value.int .u64 d :: .int .i64 i :: cs.toList).length = 19 := by simp [hcs]
  obtain ⟨y, sE, yb, yf⟩ := store_block (P := Try.prog) (w := (w.alloc (.cells zx 61)).alloc (.cells ze 102)) (B := w.heap.size + 1) (cs := ze) (t := 102) (Value.int .u64 d :: .int .i64 i :: cs.toList) (heap_alloc2_new w _ _) (by simp [hcs, ze]) hE1
  have ya : y.heap[w.heap.size]? = some (.cells zx 61 (0, 0)) := by
    rw [yf.block _ (by simp; omega) (by omega), Below.heap_alloc _ _ _ (by simp)]
    exact heap_alloc_new w _
  have yF : Fr No w y := ((Fr.alloc No w _).trans (Fr.alloc No _ _)).ofNew yf (fun k hk => Or.inr (by omega))
  have yz := (Fr.drew No y).size
  obtain ⟨z, sX, zb, zf⟩ := store_block (P := Try.prog) (w := y.drew) (B := w.heap.size) (cs := zx) (t := 61) cs.toList ya (by simp [hcs, zx]) hc1
  have zF : Fr No w z := (yF.trans (Fr.drew No y)).ofNew zf (fun k hk => Or.inr (by omega))
  have lx := load_block (P := Try.prog) (w := y.drew) (B := w.heap.size + 1) (o := 2) (xs := cs) yb hcs get_tail
  have lz := load_block (P := Try.prog) (w := z) (B := w.heap.size) (o := 0) (n := 17) (xs := cs) zb hcs (fun j v hv => by simpa using hv)
  have yd : y.cell? ⟨w.heap.size + 1, 0, none⟩ = some (.int .u64 d) := by rw [cell_of_row y _ 0 _ _ _ yb]; rfl
  have yi : y.cell? ⟨w.heap.size + 1, 1, none⟩ = some (.int .i64 i) := by rw [cell_of_row y _ 1 _ _ _ yb]; rfl
  have HZ := Lib.hid zF
  have v61 := zx_run
  have v102 := ze_run
  have sx := zx_size
  have se := ze_size
  have nx : ¬ zx = #[] := by simp [zx]
  have ne : ¬ ze = #[] := by simp [ze]
  have mixed : Try.prog.follows .mixedOrders = true := by kernel_rfl
  have t97 := Try.underlying97
  have u97 := Try.runUnderlying97
  have t95 := Try.underlying95
  have u95 := Try.runUnderlying95
  have t102 := Try.underlying102
  have u102 := Try.runUnderlying102
  have t78 := Try.underlying78
  have u78 := Try.runUnderlying78
  have g95 := Try.isAgg95
  have z95 := Try.sizeOf95
  have g3 := Try.isAgg3
  have z3 := Try.sizeOf3
  have g29 := Try.isAgg29
  have z29 := Try.sizeOf29
  have g78 := Try.isAgg78
  have z78 := Try.sizeOf78
  have g102 := Try.isAgg102
  have z102 := Try.sizeOf102
  have g61 := Try.isAgg61
  have z61 := Try.sizeOf61
  generalize hn : A.length = n at *
  clear hr hr1 ht hg h0 hn ya yb yf yF yz zb zf zF hE1 hc1
  have p1 : (0 : Int) < (n : Int) := by omega
  have p2 : ((n : Int) == 0) = false := by simpa using (by omega : ¬ (n : Int) = 0)
  go_enter Try.func57, Try.ntmps57
  obtain ⟨zx', hzx⟩ : ∃ z, z = zx := ⟨_, rfl⟩
  obtain ⟨ze', hze⟩ : ∃ z, z = ze := ⟨_, rfl⟩
  rw [← hzx] at l0 sE v61 sx nx
  rw [← hze] at sE v102 se ne
  obtain ⟨cE, hcE⟩ : ∃ c, c = (Value.int .u64 d :: .int .i64 i :: cs.toList) := ⟨_, rfl⟩
  rw [← hcE] at l0 sE lE
  clear hzx hze hcE
  obtain ⟨k, hk⟩ : ∃ k, k = 19 := ⟨_, rfl⟩
  obtain ⟨kx, hkx⟩ : ∃ k, k = 17 := ⟨_, rfl⟩
  rw [← hk] at l0 se z102 lE
  rw [← hkx] at sx hcs z61 lx lz
  obtain ⟨P, hP⟩ : ∃ P, P = Try.prog := ⟨_, rfl⟩
  rw [← hP] at l0 sE sX lx lz v61 v102 mixed t97 u97 t95 u95 t102 u102 t78 u78 g95 z95 g3 z3 g29 z29 g78 z78 g102 z102 g61 z61 ⊢
  have nk : ¬ k = 0 := by omega
  have nkx : ¬ kx = 0 := by omega
  clear hP hk hkx
  go_wp2
  go_big_region_o
  all_goals go_wp2
  refine bodyPost_ret_by (results_min rfl _ (g61 _) (z61 _) rfl lz) rfl ?_
  exact ⟨rfl, HZ.out⟩
end Go.Proofs.Ytbobokhlcbojkaa.A
