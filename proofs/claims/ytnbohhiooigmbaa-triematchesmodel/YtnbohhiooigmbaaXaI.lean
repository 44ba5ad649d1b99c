/-
  CONTRACTS of side and find of package trie at one value type, over this seat's translation.
  Conditions: the node | the tree lies in memory.
-/
import Derived.Test.YtnbohhiooigmbaaTn
import Derived.Test.YtnbohhiooigmbaaCb
import Derived.Deep.RegionHeld3
import Derived.BigQuiet
import Derived.Deep.DeepCutAuto
import Derived.Deep.CutBlock
namespace Go.Proofs.Ytnbohhiooigmbaa
open Go.ChangeShapes Go.WideShapes Go.ChangeAt Go.RowKit
set_option linter.unusedVariables false

set_option maxHeartbeats 4000000 in
set_option maxRecDepth 100000 in
theorem sdI (g : Nat) (q : Px) (v : Option (Nat × Value)) (l r : Tr) (c : Bool) (ys : List Nat) (hq : okP q) (hy : Bytes ys) (w : World) (hc : w.heap[g]? = some (.cells (cellsOf q v l r).toArray 81 (0, 0))) :
    Calls Try.prog 63 #[.pointer (some ⟨g, 0, none⟩), .agg (adr c ys).toArray] w fun e w' => e = .returned (.pointer (some ⟨g, if sideB q c ys = true then 20 else 19, none⟩)) ∧ Fr No w w' := by
  obtain ⟨Z, hZ⟩ : ∃ Z : Array Value, noP.toArray = Z := ⟨_, rfl⟩
  have v40 := zero31
  rw [hZ] at v40
  have hz18 : Z.size = 18 := by rw [← hZ]; rfl
  obtain ⟨A, hA, -, hsz, -⟩ := adr_letter c ys hy
  obtain ⟨n, hn⟩ : ∃ n, q.n = n := ⟨_, rfl⟩
  have hn0 : 0 ≤ n := by rw [← hn]; exact hq.parts.2.1
  have hn1 : n ≤ 128 := by rw [← hn]; exact ok_le hq
  obtain ⟨Q, hQ⟩ : ∃ Q, (pofT c ys (n + 1)).toArray = Q := ⟨_, rfl⟩
  have hQl := pofT_len c (n + 1) hy
  have HPO : Hid (∀ w', Calls Try.prog 72 #[.agg A, .int .i64 (n + 1)] w' fun e w'' => e = .returned (.tuple #[.agg Q, .bool (pofB c ys (n + 1))]) ∧ Fr No w' w'') := fun w' => by rw [← hA, ← hQ]; exact pof_any c ys (n + 1) hy w'
  rw [hQ] at hQl
  have hhx : Bytes (halfX c ys (n + 1)) := by
    unfold halfX
    split
    · exact pofX_bytes hy _
    · exact zeros_bytes
  have hQp : ∃ m, pofT c ys (n + 1) = pfx (halfB c ys (n + 1)) (halfX c ys (n + 1)) m := by
    unfold pofT halfB halfX
    split
    · exact ⟨_, rfl⟩
    · exact ⟨_, rfl⟩
  obtain ⟨H, hH, -, hHs, -⟩ := adr_letter (halfB c ys (n + 1)) (halfX c ys (n + 1)) hhx
  obtain ⟨K, hK, -, hKs, -⟩ := adr_letter q.b q.xs hq.1
  have hQH : ∀ (j : Nat) u, H[j]? = some u → Q[0 + j]? = some u := by
    obtain ⟨m, hm⟩ := hQp
    intro j u hu
    rw [← hQ, hm]
    obtain ⟨T, hT, -, -, -, hTA, -⟩ := pfx_letter (halfB c ys (n + 1)) (halfX c ys (n + 1)) m hhx
    rw [hT, Nat.zero_add]
    rw [hH] at hTA
    exact hTA j u hu
  obtain ⟨C, hC⟩ : ∃ C, (cellsOf q v l r).toArray = C := ⟨_, rfl⟩
  have hCK : ∀ (j : Nat) u, K[j]? = some u → C[0 + j]? = some u := by
    intro j u hu
    obtain ⟨T, hT, -, -, -, hTA, -⟩ := pfx_letter q.b q.xs q.n hq.1
    rw [hK] at hTA
    rw [← hC]
    exact cellsOf_pfx j u (by rw [hT]; exact hTA j u hu)
  have hC17 : C[17]? = some (.int .i64 n) := by
    obtain ⟨T, hT, -, hT17, -, -, -⟩ := pfx_letter q.b q.xs q.n hq.1
    rw [← hC, ← hn]
    exact cellsOf_pfx 17 _ (by rw [hT]; exact hT17)
  have hEQ : ∀ w, Sem.run Try.prog (Op.equalIn 10000 29 (.agg H) (.agg K)) w = .ok (decide (halfB c ys (n + 1) = q.b ∧ halfX c ys (n + 1) = q.xs)) w := fun w => by rw [← hH, ← hK]; exact adr_eq hhx hq.1 w
  have hside : sideB q c ys = !decide (halfB c ys (n + 1) = q.b ∧ halfX c ys (n + 1) = q.xs) := by unfold sideB; rw [hn]
  rw [hC] at hc
  rw [hA, hside]
  generalize decide (halfB c ys (n + 1) = q.b ∧ halfX c ys (n + 1) = q.xs) = eq at hEQ ⊢
  generalize pofB c ys (n + 1) = okb at HPO
  have hF0 := Fr.alloc No w (.cells A 29)
  have hb0 := heap_alloc_new w (.cells A 29)
  have hg := some_lt hc
  have hgl : w.heap.size < (w.alloc (.cells A 29)).heap.size := some_lt hb0
  have HQ := Lib.hid hQl
  have HB : Hid (∀ w', Fr No (w.alloc (.cells A 29)) w' → w'.heap[g]? = some (.cells C 81 (0, 0)) ∧ w'.heap[w.heap.size]? = some (.cells A 29 (0, 0)) ∧ w'.cell? ⟨g, 17, none⟩ = some (.int .i64 n)) := fun w' hf => ⟨(hF0.trans hf).keep hc, hf.keep hb0, cell_of ((hF0.trans hf).keep hc) hC17⟩
  have HF := Lib.hid (And.intro hF0 hg)
  have hwr : IntKind.i64.wrap (n + 1) = n + 1 := by rw [IntKind.wrap_i64]; omega
  have q40 := Try.eqGuardType29
  have HP0 := Lib.hid (And.intro hCK hQH)
  clear hZ hA hQl hQ hhx hQp hH hK hCK hQH hC hC17 hside hc hn hq hy hF0 hb0 hg
  go_enter Try.func63, Try.ntmps63
  have t3 := Try.underlying3
  have u3 := Try.runUnderlying3
  have g3 := Try.isAgg3
  have z3 := Try.sizeOf3
  have t4 := Try.underlying4
  have u4 := Try.runUnderlying4
  have g4 := Try.isAgg4
  have z4 := Try.sizeOf4
  have t29 := Try.underlying29
  have u29 := Try.runUnderlying29
  have g29 := Try.isAgg29
  have z29 := Try.sizeOf29
  have t31 := Try.underlying31
  have u31 := Try.runUnderlying31
  have g31 := Try.isAgg31
  have z31 := Try.sizeOf31
  have t73 := Try.underlying73
  have u73 := Try.runUnderlying73
  have g73 := Try.isAgg73
  have z73 := Try.sizeOf73
  have t81 := Try.underlying81
  have u81 := Try.runUnderlying81
  have g81 := Try.isAgg81
  have z81 := Try.sizeOf81
  have t79 := Try.underlying79
  have u79 := Try.runUnderlying79
  have g79 := Try.isAgg79
  have z79 := Try.sizeOf79
  have t84 := Try.underlying84
  have u84 := Try.runUnderlying84
  have g84 := Try.isAgg84
  have z84 := Try.sizeOf84
  have c72 := Try.call72
  have mixed : Try.prog.follows .mixedOrders = true := by kernel_rfl
  obtain ⟨k30, hk30⟩ : ∃ k, k = 17 := ⟨_, rfl⟩
  rw [← hk30] at z29
  have nk30 : ¬ k30 = 0 := by omega
  have HK29 := Lib.hid hk30
  obtain ⟨k40, hk40⟩ : ∃ k, k = 18 := ⟨_, rfl⟩
  rw [← hk40] at z31
  have nk40 : ¬ k40 = 0 := by omega
  have HK31 := Lib.hid hk40
  have hP : Try.prog = PD := rfl
  rw [hP] at t3 u3 g3 z3 t4 u4 g4 z4 t29 u29 g29 z29 t31 u31 g31 z31 t73 u73 g73 z73 t81 u81 g81 z81 t79 u79 g79 z79 t84 u84 g84 z84 c72 mixed v40 hEQ q40 ⊢
  have HP := Lib.hid hP.symm
  clear hP hk30 hk40
  have hAk : A.size = k30 := by rw [HK29.out]; exact hsz
  have hHk : H.size = k30 := by rw [HK29.out]; exact hHs
  have hKk : K.size = k30 := by rw [HK29.out]; exact hKs
  have hZk : Z.size = k40 := by rw [HK31.out]; exact hz18
  have hQk : Q.size = k40 := by rw [HK31.out]; exact HQ.out.1
  have HL : Hid (∀ w', Fr No (w.alloc (.cells A 29)) w' → Sem.run PD (loadCellsFrom ⟨w.heap.size, 0, none⟩ 0 k30 #[]) w' = .ok A w' ∧ Sem.run PD (loadCellsFrom ⟨g, 0, none⟩ 0 k30 #[]) w' = .ok K w') := fun w' hf => ⟨load_block (HB.out w' hf).2.1 hAk (fun j v hv => by simpa using hv), load_block (HB.out w' hf).1 hKk HP0.out.1⟩
  clear hsz hz18 hHs hKs
  go_upto_region 1 with fail
  have HS : Hid (∀ w', Fr No (w.alloc (.cells A 29)) w' → Fr No (w.alloc (.cells A 29)) w' ∧ Sem.run PD (loadCellsFrom ⟨w.heap.size, 0, none⟩ 0 k30 #[]) w' = .ok A w' ∧ w'.cell? ⟨g, 17, none⟩ = some (.int .i64 n)) := fun w' hf => ⟨hf, (HL.out w' hf).1, (HB.out w' hf).2.2⟩
  have f1 := HS.out _ (Fr.drew No (w.alloc (.cells A 29)))
  have HN : Hid (((w.alloc (.cells A 29)).drew.alloc (.cells Z 31)).heap[w.heap.size + 1]? = some (.cells Z 31 (0, 0)) ∧ (w.alloc (.cells A 29)).heap.size = w.heap.size + 1) := by
    have h1 := heap_alloc_new (w.alloc (.cells A 29)).drew (.cells Z 31)
    have h2 : (w.alloc (.cells A 29)).heap.size = w.heap.size + 1 := by simp
    exact ⟨by rw [show (w.alloc (.cells A 29)).drew.heap.size = w.heap.size + 1 from h2] at h1; exact h1, h2⟩
  go_region_held3 (fun w' => Fr No (w.alloc (.cells A 29)) w' ∧ Sem.run PD (loadCellsFrom ⟨w.heap.size, 0, none⟩ 0 k30 #[]) w' = .ok A w' ∧ w'.cell? ⟨g, 17, none⟩ = some (.int .i64 n)) (first | assumption | (refine HS.out _ ?_; first | assumption | exact Fr.trans (And.left (by assumption)) hf3 | exact Fr.trans (And.left (by assumption)) (Fr.alloc No _ _) | exact K3)) (first | (go_at_call 72; go_loud (refine (at_prog HP.out (HPO.out _)).mono ?_; rintro e w3 ⟨rfl, hf3⟩; have K2 : Fr No (w.alloc (.cells A 29)) w3 := Fr.trans (And.left (by assumption)) hf3; first | (obtain ⟨y, hst, hyb, hyf⟩ := store_all (P := PD) Q.toList (hf3.keep HN.out.1) (by rw [Array.length_toList, hQk, hZk]) HQ.out.2; have K3 : Fr No (w.alloc (.cells A 29)) y := K2.ofNew hyf (fun k hk => .inr (by rw [hk, HN.out.2]; exact Nat.le_refl _))) | (obtain ⟨y, hst, hyb, hyf⟩ := store_all (P := PD) Q.toList (heap_alloc_new w3 (.cells Z 31)) (by rw [Array.length_toList, hQk, hZk]) HQ.out.2; have K3 : Fr No (w.alloc (.cells A 29)) y := (K2.trans (Fr.alloc No w3 (.cells Z 31))).ofNew hyf (fun k hk => .inr (by rw [hk]; exact K2.size))))))
  all_goals (
    have HK3 : Hid (Fr No w y) := HF.out.1.trans K3
    first | (obtain ⟨cb, hcb⟩ : ∃ cb, w3.heap.size = cb := ⟨_, rfl⟩; rw [hcb] at hyb ⊢) | (obtain ⟨cb, hcb⟩ : ∃ cb, w.heap.size + 1 = cb := ⟨_, rfl⟩; rw [hcb] at hyb ⊢)
    have HY : Hid (∀ w', Fr No y w' → Sem.run PD (loadCellsFrom ⟨cb, 0, none⟩ 0 k30 #[]) w' = .ok H w' ∧ Sem.run PD (loadCellsFrom ⟨g, 0, none⟩ 0 k30 #[]) w' = .ok K w') := fun w' hf => ⟨load_block (hf.keep hyb) hHk (fun j v hv => by simpa using HP0.out.2 j v hv), (HL.out w' (K3.trans hf)).2⟩
    clear hcb hst hyb hyf f1 K2 hf3 hgl
    have f2 := HY.out _ (Fr.drew No y)
    go_upto_region 2 with fail
    cases eq
    all_goals (
      go_region_held3 (fun w' => Sem.run PD (loadCellsFrom ⟨cb, 0, none⟩ 0 k30 #[]) w' = .ok H w' ∧ Sem.run PD (loadCellsFrom ⟨g, 0, none⟩ 0 k30 #[]) w' = .ok K w') (assumption) (fail)
      go_wp2_with fail
      go_ret
      exact ⟨rfl, HK3.out.trans (Fr.drew No y)⟩))
end Go.Proofs.Ytnbohhiooigmbaa
