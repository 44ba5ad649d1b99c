/-
  CONTRACTS of the method Pop of the heap at addresses, over this seat's translation: what each call returns, what it leaves in memory.
  Conditions: the heap lies in memory as HeapAt says, in order.
-/
import Derived.Test.YtbobokhlcbojkaaA6
namespace Go.Proofs.Ytbobokhlcbojkaa.A
open Go.ChangeShapes Go.WideShapes Go.ChangeAt Go.RowKit Go.Maps
set_option linter.unusedVariables false

set_option maxHeartbeats 1000000 in
set_option maxRecDepth 100000 in
theorem pop_some (hb mb : Nat) (sv : Value) (A : List Ent) (last : Int) (e0 : Ent) (w : World) (h : HA w hb mb sv A last) (hO : Ordered A) (h0 : A[0]? = some e0) :
    Calls Try.prog 38 #[.pointer (some ⟨hb, 0, none⟩)] w fun e w' => e = .returned (.tuple #[.int .i64 e0.id, .int .u64 e0.due, e0.val, .bool true]) ∧
      ∃ sv' A', HA w' hb mb sv' A' last ∧ (e0 :: A').Perm A ∧ Ordered A' ∧ Fr (Own hb mb sv) w w' ∧ sv'.ownBlock = sv.ownBlock := by
  obtain ⟨d, i, v⟩ := e0
  obtain ⟨cs, rfl, hcs, hc1⟩ := h.good.val 0 _ h0
  have HS := Lib.hid (And.intro h (And.intro hO (And.intro h0 (And.intro hcs hc1))))
  clear h hO h0 hc1
  have v61 := zx_run
  have sx := zx_size
  have nx : ¬ zx = #[] := by simp [zx]
  have call57 := Try.call57
  have call58 := Try.call58
  have g4 := Try.isAgg4
  have t4 := Try.underlying4
  have u4 := Try.runUnderlying4
  have mixed : Try.prog.follows .mixedOrders = true := by kernel_rfl
  have t97 := Try.underlying97
  have u97 := Try.runUnderlying97
  have t95 := Try.underlying95
  have u95 := Try.runUnderlying95
  have t102 := Try.underlying102
  have u102 := Try.runUnderlying102
  have t78 := Try.underlying78
  have u78 := Try.runUnderlying78
  have g95 := Try.isAgg95
  have z95 := Try.sizeOf95
  have g3 := Try.isAgg3
  have z3 := Try.sizeOf3
  have g29 := Try.isAgg29
  have z29 := Try.sizeOf29
  have g78 := Try.isAgg78
  have z78 := Try.sizeOf78
  have g102 := Try.isAgg102
  have z102 := Try.sizeOf102
  have g61 := Try.isAgg61
  have z61 := Try.sizeOf61
  go_enter Try.func38, Try.ntmps38
  obtain ⟨zx', hzx⟩ : ∃ z, z = zx := ⟨_, rfl⟩
  rw [← hzx] at v61 sx nx
  obtain ⟨kx, hkx⟩ : ∃ k, k = 17 := ⟨_, rfl⟩
  rw [← hkx] at sx hcs z61
  obtain ⟨P, hP⟩ : ∃ P, P = Try.prog := ⟨_, rfl⟩
  rw [← hP] at v61 call57 call58 g4 t4 u4 mixed t97 u97 t95 u95 t102 u102 t78 u78 g95 z95 g3 z3 g29 z29 g78 z78 g102 z102 g61 z61 ⊢
  have nkx : ¬ kx = 0 := by omega
  have HP := Lib.hid hP
  have HK := Lib.hid (And.intro hkx hzx)
  clear hP hkx hzx
  go_wp2_with fail
  have H0 : HA (w.alloc (.cells zx' 61)) hb mb sv A last := HS.out.1.frNo (Fr.alloc No w _)
  refine (at_prog HP.out (min_some hb mb sv A last _ _ H0 HS.out.2.2.1)).mono ?_
  rintro e w1 ⟨rfl, hf1⟩
  have hF1 : Fr No w w1 := (Fr.alloc No w _).trans hf1
  have b4 : w1.heap[w.heap.size]? = some (.cells zx' 61 (0, 0)) := by rw [hf1.block _ (by simp) (fun h => h)]; exact heap_alloc_new w _
  obtain ⟨y, sX, yb, yf⟩ := store_block (P := P) (w := w1.alloc (.cells zx' 61)) (B := w1.heap.size) (cs := zx') (t := 61) cs.toList (heap_alloc_new w1 _) (by simp [hcs, sx]) HS.out.2.2.2.2
  have hlt1 : w.heap.size < w1.heap.size := block_lt_of_cell (w := w1) (a := ⟨w.heap.size, 0, none⟩) (v := zx'[0]'(by omega)) (by rw [cell_of_row w1 _ 0 _ _ _ b4]; simp)
  have y4 : y.heap[w.heap.size]? = some (.cells zx' 61 (0, 0)) := by rw [yf.block _ (by simp; omega) (by omega), Below.heap_alloc _ _ _ hlt1]; exact b4
  have yF : Fr No w y := (hF1.trans (Fr.alloc No w1 _)).ofNew yf (fun k hk => Or.inr (by omega))
  have HY := Lib.hid (And.intro yF (And.intro yb (And.intro y4 hlt1)))
  clear H0 hf1 hF1 b4 yb yf y4 yF
  go_wp2_with fail
  have HAy : HA y hb mb sv A last := HS.out.1.frNo HY.out.1
  have hown : ∀ k, Own hb mb sv k → k < w.heap.size := fun k hk => HS.out.1.own_lt hk
  refine (at_prog HP.out (removeAt_any hb mb sv A last 0 _ _ HAy HS.out.2.1 HS.out.2.2.1)).mono ?_
  rintro e w2 ⟨rfl, sv', A', h1, h2, h3, h4, h5⟩
  obtain ⟨yF, yb, y4, hlt1⟩ := HY.out
  have c8 : w2.heap[w1.heap.size]? = some (.cells cs.toList.toArray 61 (0, 0)) := (h4.block _ (Array.getElem?_eq_some_iff.1 yb).1 (fun hk => by have := hown _ hk; omega)).trans yb
  have c4 : w2.heap[w.heap.size]? = some (.cells zx' 61 (0, 0)) := (h4.block _ (Array.getElem?_eq_some_iff.1 y4).1 (fun hk => by have := hown _ hk; omega)).trans y4
  obtain ⟨z, sZ, zb, zf⟩ := store_block (P := P) (w := w2.drew) (B := w.heap.size) (cs := zx') (t := 61) cs.toList c4 (by simp [hcs, sx]) HS.out.2.2.2.2
  have lx := load_block (P := P) (w := w2.drew) (B := w1.heap.size) (o := 0) (xs := cs) c8 hcs (fun j v hv => by simpa using hv)
  have lz := load_block (P := P) (w := z) (B := w.heap.size) (o := 0) (xs := cs) zb hcs (fun j v hv => by simpa using hv)
  have own' : ∀ k, Own hb mb sv' k → k < w.heap.size := fun k hk => hown k (by rw [← own_eq h5]; exact hk)
  have HZ : Hid (HA z hb mb sv' A' last ∧ Fr (Own hb mb sv) w z) := ⟨(h1.keep (w' := w2.drew) (fun _ _ => rfl)).fr zf (fun k hk => by have := own' k hk; omega), ((yF.no.trans h4).trans (Fr.drew _ w2)).ofNew zf (fun k hk => Or.inr (by omega))⟩
  have H5 := Lib.hid (And.intro h2 (And.intro h3 h5))
  clear HAy hown own' h1 h2 h3 h4 h5 yF yb y4 hlt1 c8 c4 zb zf sX HY
  go_wp2_with fail
  go_big_region_o
  all_goals go_wp2
  refine bodyPost_ret_by (results_min rfl _ (g61 _) (z61 _) rfl lz) rfl ?_
  exact ⟨rfl, sv', A', HZ.out.1, H5.out.1, H5.out.2.1, HZ.out.2, H5.out.2.2⟩
end Go.Proofs.Ytbobokhlcbojkaa.A
