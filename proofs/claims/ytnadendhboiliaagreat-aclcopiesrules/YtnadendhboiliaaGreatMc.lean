/-
  CONTRACTS of package cidr's Valid and Covers, over this seat's translation: what each call returns.
  Conditions: the arguments are prefixes.
  CONTRACTS of side and find of package trie at one value type, over this seat's translation.
  Conditions: the node | the tree lies in memory.
  CONTRACT of find of package trie at one value type, over this seat's translation.
  Conditions: the tree lies in memory, the place points to it.
  CONTRACTS of New, Len, root and Get of package trie at one value type, over this seat's translation.
  Conditions: the trie lies in memory.
  CONTRACT of common of package trie, over this seat's translation: the call returns the common prefix.
  Conditions: both are valid and of one family.
  CONTRACT of provide of package trie at one value type, over this seat's translation: where p's node is, and what the memory is once its value is written.
  Conditions: the trie lies in memory, the prefix is valid.
  CONTRACT of Insert of package trie at one value type, over this seat's translation.
  Conditions: the trie lies in memory.
  CONTRACTS of package trie at one value type, over this seat's translation, said of the trie's list.
  Conditions: the trie lies in memory.
  CONTRACT of Get of package trie at one value type, over this seat's translation.
  Conditions: the trie lies in memory.
  CONTRACTS of Get and Delete of package trie at one value type, over this seat's translation, said of the trie's list.
  Conditions: the trie lies in memory.
  CONTRACT of path of package trie at one value type, over this seat's translation.
  Conditions: the trie lies in memory.
  CONTRACT of Matches of package trie at one value type, over this seat's translation.
  Conditions: the trie lies in memory.
  CONTRACT of Matches of package trie at one value type, over this seat's translation, said of the trie's list.
  Conditions: the trie lies in memory.
-/
import Derived.Test.YtnadendhboiliaaGreatCb
import Derived.Test.YtnadendhboiliaaGreatMb
import Derived.Deep.RegionHeld3
import Derived.BigQuiet
import Derived.Deep.DeepCutAuto
import Derived.Deep.CutBlock
import Derived.Test.YtnadendhboiliaaGreatMa
import Derived.Test.YtnadendhboiliaaGreatGr
import Derived.Test.YtnadendhboiliaaGreatWd
namespace Go.Proofs.YtnadendhboiliaaGreat
open Go.ChangeShapes Go.WideShapes Go.ChangeAt Go.RowKit
set_option linter.unusedVariables false

set_option maxHeartbeats 4000000 in
set_option maxRecDepth 100000 in
theorem validp_any (b : Bool) (xs : List Nat) (n : Int) (hx : Bytes xs) (w : World) :
    Calls Tryz.prog 38 #[.agg (pfx b xs n).toArray] w fun e w' => e = .returned (.bool (validP b xs n)) ∧ Fr No w w' := by
  have HC : Hid (∀ w', Calls Tryz.prog 61 #[.agg (pfx b xs n).toArray, .agg (adr b xs).toArray] w' fun e w'' => e = .returned (.bool (validP b xs n)) ∧ Fr No w' w'') := fun w' => by rw [← valid_cont]; exact cont_any b b xs xs n hx hx w'
  obtain ⟨P, hP0, -, -, hPs, hPA, -⟩ := pfx_letter b xs n hx
  obtain ⟨A, hA, -, hsz, -⟩ := adr_letter b xs hx
  rw [hA] at HC hPA
  rw [hP0] at HC ⊢
  generalize validP b xs n = v at HC ⊢
  have hl1 : Sem.run Tryz.prog (loadCellsFrom ⟨w.heap.size, 0, none⟩ 0 18 #[]) (w.alloc (.cells P 29)) = .ok P (w.alloc (.cells P 29)) := load_block (heap_alloc_new w _) hPs (fun j v hv => by simpa using hv)
  have hl2 : Sem.run Tryz.prog (loadCellsFrom ⟨w.heap.size, 0, none⟩ 0 17 #[]) (w.alloc (.cells P 29)) = .ok A (w.alloc (.cells P 29)) := load_block (heap_alloc_new w _) hsz (adr_part hsz hPA)
  clear hPA hP0 hA
  go_enter Tryz.func38, Tryz.ntmps38
  have t3 := Tryz.underlying3
  have u3 := Tryz.runUnderlying3
  have g3 := Tryz.isAgg3
  have z3 := Tryz.sizeOf3
  have t4 := Tryz.underlying4
  have u4 := Tryz.runUnderlying4
  have g4 := Tryz.isAgg4
  have z4 := Tryz.sizeOf4
  have t25 := Tryz.underlying25
  have u25 := Tryz.runUnderlying25
  have g25 := Tryz.isAgg25
  have z25 := Tryz.sizeOf25
  have t29 := Tryz.underlying29
  have u29 := Tryz.runUnderlying29
  have g29 := Tryz.isAgg29
  have z29 := Tryz.sizeOf29
  have c61 := Tryz.call61
  have mixed : Tryz.prog.follows .mixedOrders = true := by kernel_rfl
  obtain ⟨k30, hk30⟩ : ∃ k, k = 17 := ⟨_, rfl⟩
  rw [← hk30] at z25
  have nk30 : ¬ k30 = 0 := by omega
  have HK25 := Lib.hid hk30
  obtain ⟨k40, hk40⟩ : ∃ k, k = 18 := ⟨_, rfl⟩
  rw [← hk40] at z29
  have nk40 : ¬ k40 = 0 := by omega
  have HK29 := Lib.hid hk40
  have hP : Tryz.prog = PD := rfl
  rw [hP] at t3 u3 g3 z3 t4 u4 g4 z4 t25 u25 g25 z25 t29 u29 g29 z29 c61 mixed hl1 hl2 ⊢
  have HP := Lib.hid hP.symm
  clear hP hk30 hk40
  have hAk : A.size = k30 := by rw [HK25.out]; exact hsz
  have hPk : P.size = k40 := by rw [HK29.out]; exact hPs
  rw [← HK29.out] at hl1
  rw [← HK25.out] at hl2
  clear hsz hPs
  go_wp2_with (first | (go_at_call 61; refine (at_prog HP.out (HC.out _)).mono ?_; rintro e w3 ⟨rfl, hf3⟩) | fail)
  go_ret
  exact ⟨rfl, (Fr.alloc _ _ _).trans hf3⟩

set_option maxHeartbeats 4000000 in
set_option maxRecDepth 100000 in
theorem cov_any (b c : Bool) (xs ys : List Nat) (n m : Int) (hx : Bytes xs) (hy : Bytes ys) (w : World) :
    Calls Tryz.prog 80 #[.agg (pfx b xs n).toArray, .agg (pfx c ys m).toArray] w fun e w' => e = .returned (.bool (covP b xs n c ys m)) ∧ Fr No w w' := by
  have HC : Hid (∀ w', Calls Tryz.prog 61 #[.agg (pfx b xs n).toArray, .agg (adr c ys).toArray] w' fun e w'' => e = .returned (.bool (contP b xs n c ys)) ∧ Fr No w' w'') := fun w' => cont_any b c xs ys n hx hy w'
  have HV : Hid (∀ w', Calls Tryz.prog 38 #[.agg (pfx c ys m).toArray] w' fun e w'' => e = .returned (.bool (validP c ys m)) ∧ Fr No w' w'') := fun w' => validp_any c ys m hy w'
  have HR : Hid (covP b xs n c ys m = (validP c ys m && decide (n ≤ m) && contP b xs n c ys)) := rfl
  obtain ⟨P, hP0, -, hP17, hPs, -, -⟩ := pfx_letter b xs n hx
  obtain ⟨Q, hQ0, -, hQ17, hQs, hQA, -⟩ := pfx_letter c ys m hy
  obtain ⟨A, hA, -, hsz, -⟩ := adr_letter c ys hy
  rw [hA] at HC hQA
  rw [hP0] at HC ⊢
  rw [hQ0] at HV ⊢
  rw [HR.out]
  generalize validP c ys m = v at HV HR ⊢
  generalize contP b xs n c ys = ct at HC HR ⊢
  obtain ⟨b1, b2, hF⟩ := alloc2 w (.cells P 29) (.cells Q 29)
  have HLD : Hid (∀ w', Fr No ((w.alloc (.cells P 29)).alloc (.cells Q 29)) w' → Sem.run Tryz.prog (loadCellsFrom ⟨w.heap.size, 0, none⟩ 0 18 #[]) w' = .ok P w' ∧ Sem.run Tryz.prog (loadCellsFrom ⟨w.heap.size + 1, 0, none⟩ 0 18 #[]) w' = .ok Q w' ∧ Sem.run Tryz.prog (loadCellsFrom ⟨w.heap.size + 1, 0, none⟩ 0 17 #[]) w' = .ok A w' ∧ w'.cell? ⟨w.heap.size, 17, none⟩ = some (.int .i64 n) ∧ w'.cell? ⟨w.heap.size + 1, 17, none⟩ = some (.int .i64 m)) := fun w' hf => by
    have k1 := hf.keep b1
    have k2 := hf.keep b2
    exact ⟨load_block k1 hPs (fun j v hv => by simpa using hv), load_block k2 hQs (fun j v hv => by simpa using hv), load_block k2 hsz (adr_part hsz hQA), by rw [cell_of_row _ _ _ _ _ _ k1]; exact hP17, by rw [cell_of_row _ _ _ _ _ _ k2]; exact hQ17⟩
  have HF := Lib.hid hF
  clear b1 b2 hF hQA hP0 hQ0 hA hP17 hQ17 HR
  have hl2 := (HLD.out _ (Fr.refl _ _)).2.1
  cases v
  · go_enter Tryz.func80, Tryz.ntmps80
    have t3 := Tryz.underlying3
    have u3 := Tryz.runUnderlying3
    have g3 := Tryz.isAgg3
    have z3 := Tryz.sizeOf3
    have t4 := Tryz.underlying4
    have u4 := Tryz.runUnderlying4
    have g4 := Tryz.isAgg4
    have z4 := Tryz.sizeOf4
    have t25 := Tryz.underlying25
    have u25 := Tryz.runUnderlying25
    have g25 := Tryz.isAgg25
    have z25 := Tryz.sizeOf25
    have t29 := Tryz.underlying29
    have u29 := Tryz.runUnderlying29
    have g29 := Tryz.isAgg29
    have z29 := Tryz.sizeOf29
    have c38 := Tryz.call38
    have c61 := Tryz.call61
    have mixed : Tryz.prog.follows .mixedOrders = true := by kernel_rfl
    obtain ⟨k30, hk30⟩ : ∃ k, k = 17 := ⟨_, rfl⟩
    rw [← hk30] at z25
    have nk30 : ¬ k30 = 0 := by omega
    have HK25 := Lib.hid hk30
    obtain ⟨k40, hk40⟩ : ∃ k, k = 18 := ⟨_, rfl⟩
    rw [← hk40] at z29
    have nk40 : ¬ k40 = 0 := by omega
    have HK29 := Lib.hid hk40
    have hP : Tryz.prog = PD := rfl
    rw [hP] at t3 u3 g3 z3 t4 u4 g4 z4 t25 u25 g25 z25 t29 u29 g29 z29 c38 c61 mixed HLD hl2 ⊢
    have HP := Lib.hid hP.symm
    clear hP hk30 hk40
    have hAk : A.size = k30 := by rw [HK25.out]; exact hsz
    have hPk : P.size = k40 := by rw [HK29.out]; exact hPs
    have hQk : Q.size = k40 := by rw [HK29.out]; exact hQs
    rw [← HK29.out] at hl2
    clear hsz hPs hQs
    go_wp2_with (first | (go_at_call 38; refine (at_prog HP.out (HV.out _)).mono ?_; rintro e w3 ⟨rfl, hf3⟩) | fail)
    go_ret
    exact ⟨rfl, HF.out.trans hf3⟩
  · by_cases hnm : n ≤ m
    · rw [decide_eq_true hnm]
      go_enter Tryz.func80, Tryz.ntmps80
      have t3 := Tryz.underlying3
      have u3 := Tryz.runUnderlying3
      have g3 := Tryz.isAgg3
      have z3 := Tryz.sizeOf3
      have t4 := Tryz.underlying4
      have u4 := Tryz.runUnderlying4
      have g4 := Tryz.isAgg4
      have z4 := Tryz.sizeOf4
      have t25 := Tryz.underlying25
      have u25 := Tryz.runUnderlying25
      have g25 := Tryz.isAgg25
      have z25 := Tryz.sizeOf25
      have t29 := Tryz.underlying29
      have u29 := Tryz.runUnderlying29
      have g29 := Tryz.isAgg29
      have z29 := Tryz.sizeOf29
      have c38 := Tryz.call38
      have c61 := Tryz.call61
      have mixed : Tryz.prog.follows .mixedOrders = true := by kernel_rfl
      obtain ⟨k30, hk30⟩ : ∃ k, k = 17 := ⟨_, rfl⟩
      rw [← hk30] at z25
      have nk30 : ¬ k30 = 0 := by omega
      have HK25 := Lib.hid hk30
      obtain ⟨k40, hk40⟩ : ∃ k, k = 18 := ⟨_, rfl⟩
      rw [← hk40] at z29
      have nk40 : ¬ k40 = 0 := by omega
      have HK29 := Lib.hid hk40
      have hP : Tryz.prog = PD := rfl
      rw [hP] at t3 u3 g3 z3 t4 u4 g4 z4 t25 u25 g25 z25 t29 u29 g29 z29 c38 c61 mixed HLD hl2 ⊢
      have HP := Lib.hid hP.symm
      clear hP hk30 hk40
      have hAk : A.size = k30 := by rw [HK25.out]; exact hsz
      have hPk : P.size = k40 := by rw [HK29.out]; exact hPs
      have hQk : Q.size = k40 := by rw [HK29.out]; exact hQs
      rw [← HK29.out] at hl2
      clear hsz hPs hQs
      go_wp2_with (first | (go_at_call 38; refine (at_prog HP.out (HV.out _)).mono ?_; rintro e w3 ⟨rfl, hf3⟩; have f1 := (HLD.out w3 hf3).1; rw [← HK29.out] at f1; have f3 := (HLD.out w3 hf3).2.2.1; rw [← HK25.out] at f3; have f4 := (HLD.out w3 hf3).2.2.2.1; have f5 := (HLD.out w3 hf3).2.2.2.2) | (go_at_call 61; refine (at_prog HP.out (HC.out _)).mono ?_; rintro e w4 ⟨rfl, hf4⟩) | fail)
      go_ret
      exact ⟨rfl, (HF.out.trans hf3).trans hf4⟩
    · rw [decide_eq_false hnm]
      go_enter Tryz.func80, Tryz.ntmps80
      have t3 := Tryz.underlying3
      have u3 := Tryz.runUnderlying3
      have g3 := Tryz.isAgg3
      have z3 := Tryz.sizeOf3
      have t4 := Tryz.underlying4
      have u4 := Tryz.runUnderlying4
      have g4 := Tryz.isAgg4
      have z4 := Tryz.sizeOf4
      have t25 := Tryz.underlying25
      have u25 := Tryz.runUnderlying25
      have g25 := Tryz.isAgg25
      have z25 := Tryz.sizeOf25
      have t29 := Tryz.underlying29
      have u29 := Tryz.runUnderlying29
      have g29 := Tryz.isAgg29
      have z29 := Tryz.sizeOf29
      have c38 := Tryz.call38
      have c61 := Tryz.call61
      have mixed : Tryz.prog.follows .mixedOrders = true := by kernel_rfl
      obtain ⟨k30, hk30⟩ : ∃ k, k = 17 := ⟨_, rfl⟩
      rw [← hk30] at z25
      have nk30 : ¬ k30 = 0 := by omega
      have HK25 := Lib.hid hk30
      obtain ⟨k40, hk40⟩ : ∃ k, k = 18 := ⟨_, rfl⟩
      rw [← hk40] at z29
      have nk40 : ¬ k40 = 0 := by omega
      have HK29 := Lib.hid hk40
      have hP : Tryz.prog = PD := rfl
      rw [hP] at t3 u3 g3 z3 t4 u4 g4 z4 t25 u25 g25 z25 t29 u29 g29 z29 c38 c61 mixed HLD hl2 ⊢
      have HP := Lib.hid hP.symm
      clear hP hk30 hk40
      have hAk : A.size = k30 := by rw [HK25.out]; exact hsz
      have hPk : P.size = k40 := by rw [HK29.out]; exact hPs
      have hQk : Q.size = k40 := by rw [HK29.out]; exact hQs
      rw [← HK29.out] at hl2
      clear hsz hPs hQs
      go_wp2_with (first | (go_at_call 38; refine (at_prog HP.out (HV.out _)).mono ?_; rintro e w3 ⟨rfl, hf3⟩; have f4 := (HLD.out w3 hf3).2.2.2.1; have f5 := (HLD.out w3 hf3).2.2.2.2) | fail)
      go_ret
      exact ⟨rfl, HF.out.trans hf3⟩
end Go.Proofs.YtnadendhboiliaaGreat
namespace Go.Proofs.YtnadendhboiliaaGreat
open Go.ChangeShapes Go.WideShapes Go.ChangeAt Go.RowKit
set_option linter.unusedVariables false

set_option maxHeartbeats 4000000 in
set_option maxRecDepth 100000 in
theorem sdL (g : Nat) (q : Px) (v : Option (Nat × Value)) (l r : Tr) (c : Bool) (ys : List Nat) (hq : okP q) (hy : Bytes ys) (w : World) (hc : w.heap[g]? = some (.cells (cellsOf q v l r).toArray 103 (0, 0))) :
    Calls Tryz.prog 81 #[.pointer (some ⟨g, 0, none⟩), .agg (adr c ys).toArray] w fun e w' => e = .returned (.pointer (some ⟨g, if sideB q c ys = true then 20 else 19, none⟩)) ∧ Fr No w w' := by
  obtain ⟨Z, hZ⟩ : ∃ Z : Array Value, noP.toArray = Z := ⟨_, rfl⟩
  have v40 := zero29
  rw [hZ] at v40
  have hz18 : Z.size = 18 := by rw [← hZ]; rfl
  obtain ⟨A, hA, -, hsz, -⟩ := adr_letter c ys hy
  obtain ⟨n, hn⟩ : ∃ n, q.n = n := ⟨_, rfl⟩
  have hn0 : 0 ≤ n := by rw [← hn]; exact hq.parts.2.1
  have hn1 : n ≤ 128 := by rw [← hn]; exact ok_le hq
  obtain ⟨Q, hQ⟩ : ∃ Q, (pofT c ys (n + 1)).toArray = Q := ⟨_, rfl⟩
  have hQl := pofT_len c (n + 1) hy
  have HPO : Hid (∀ w', Calls Tryz.prog 79 #[.agg A, .int .i64 (n + 1)] w' fun e w'' => e = .returned (.tuple #[.agg Q, .bool (pofB c ys (n + 1))]) ∧ Fr No w' w'') := fun w' => by rw [← hA, ← hQ]; exact pof_any c ys (n + 1) hy w'
  rw [hQ] at hQl
  have hhx : Bytes (halfX c ys (n + 1)) := by
    unfold halfX
    split
    · exact pofX_bytes hy _
    · exact zeros_bytes
  have hQp : ∃ m, pofT c ys (n + 1) = pfx (halfB c ys (n + 1)) (halfX c ys (n + 1)) m := by
    unfold pofT halfB halfX
    split
    · exact ⟨_, rfl⟩
    · exact ⟨_, rfl⟩
  obtain ⟨H, hH, -, hHs, -⟩ := adr_letter (halfB c ys (n + 1)) (halfX c ys (n + 1)) hhx
  obtain ⟨K, hK, -, hKs, -⟩ := adr_letter q.b q.xs hq.1
  have hQH : ∀ (j : Nat) u, H[j]? = some u → Q[0 + j]? = some u := by
    obtain ⟨m, hm⟩ := hQp
    intro j u hu
    rw [← hQ, hm]
    obtain ⟨T, hT, -, -, -, hTA, -⟩ := pfx_letter (halfB c ys (n + 1)) (halfX c ys (n + 1)) m hhx
    rw [hT, Nat.zero_add]
    rw [hH] at hTA
    exact hTA j u hu
  obtain ⟨C, hC⟩ : ∃ C, (cellsOf q v l r).toArray = C := ⟨_, rfl⟩
  have hCK : ∀ (j : Nat) u, K[j]? = some u → C[0 + j]? = some u := by
    intro j u hu
    obtain ⟨T, hT, -, -, -, hTA, -⟩ := pfx_letter q.b q.xs q.n hq.1
    rw [hK] at hTA
    rw [← hC]
    exact cellsOf_pfx j u (by rw [hT]; exact hTA j u hu)
  have hC17 : C[17]? = some (.int .i64 n) := by
    obtain ⟨T, hT, -, hT17, -, -, -⟩ := pfx_letter q.b q.xs q.n hq.1
    rw [← hC, ← hn]
    exact cellsOf_pfx 17 _ (by rw [hT]; exact hT17)
  have hEQ : ∀ w, Sem.run Tryz.prog (Op.equalIn 10000 25 (.agg H) (.agg K)) w = .ok (decide (halfB c ys (n + 1) = q.b ∧ halfX c ys (n + 1) = q.xs)) w := fun w => by rw [← hH, ← hK]; exact adr_eq hhx hq.1 w
  have hside : sideB q c ys = !decide (halfB c ys (n + 1) = q.b ∧ halfX c ys (n + 1) = q.xs) := by unfold sideB; rw [hn]
  rw [hC] at hc
  rw [hA, hside]
  generalize decide (halfB c ys (n + 1) = q.b ∧ halfX c ys (n + 1) = q.xs) = eq at hEQ ⊢
  generalize pofB c ys (n + 1) = okb at HPO
  have hF0 := Fr.alloc No w (.cells A 25)
  have hb0 := heap_alloc_new w (.cells A 25)
  have hg := some_lt hc
  have hgl : w.heap.size < (w.alloc (.cells A 25)).heap.size := some_lt hb0
  have HQ := Lib.hid hQl
  have HB : Hid (∀ w', Fr No (w.alloc (.cells A 25)) w' → w'.heap[g]? = some (.cells C 103 (0, 0)) ∧ w'.heap[w.heap.size]? = some (.cells A 25 (0, 0)) ∧ w'.cell? ⟨g, 17, none⟩ = some (.int .i64 n)) := fun w' hf => ⟨(hF0.trans hf).keep hc, hf.keep hb0, cell_of ((hF0.trans hf).keep hc) hC17⟩
  have HF := Lib.hid (And.intro hF0 hg)
  have hwr : IntKind.i64.wrap (n + 1) = n + 1 := by rw [IntKind.wrap_i64]; omega
  have q40 := Tryz.eqGuardType25
  have HP0 := Lib.hid (And.intro hCK hQH)
  clear hZ hA hQl hQ hhx hQp hH hK hCK hQH hC hC17 hside hc hn hq hy hF0 hb0 hg
  go_enter Tryz.func81, Tryz.ntmps81
  have t3 := Tryz.underlying3
  have u3 := Tryz.runUnderlying3
  have g3 := Tryz.isAgg3
  have z3 := Tryz.sizeOf3
  have t4 := Tryz.underlying4
  have u4 := Tryz.runUnderlying4
  have g4 := Tryz.isAgg4
  have z4 := Tryz.sizeOf4
  have t25 := Tryz.underlying25
  have u25 := Tryz.runUnderlying25
  have g25 := Tryz.isAgg25
  have z25 := Tryz.sizeOf25
  have t29 := Tryz.underlying29
  have u29 := Tryz.runUnderlying29
  have g29 := Tryz.isAgg29
  have z29 := Tryz.sizeOf29
  have t50 := Tryz.underlying50
  have u50 := Tryz.runUnderlying50
  have g50 := Tryz.isAgg50
  have z50 := Tryz.sizeOf50
  have t73 := Tryz.underlying73
  have u73 := Tryz.runUnderlying73
  have g73 := Tryz.isAgg73
  have z73 := Tryz.sizeOf73
  have t103 := Tryz.underlying103
  have u103 := Tryz.runUnderlying103
  have g103 := Tryz.isAgg103
  have z103 := Tryz.sizeOf103
  have t101 := Tryz.underlying101
  have u101 := Tryz.runUnderlying101
  have g101 := Tryz.isAgg101
  have z101 := Tryz.sizeOf101
  have t97 := Tryz.underlying97
  have u97 := Tryz.runUnderlying97
  have g97 := Tryz.isAgg97
  have z97 := Tryz.sizeOf97
  have c79 := Tryz.call79
  have mixed : Tryz.prog.follows .mixedOrders = true := by kernel_rfl
  obtain ⟨k30, hk30⟩ : ∃ k, k = 17 := ⟨_, rfl⟩
  rw [← hk30] at z25
  have nk30 : ¬ k30 = 0 := by omega
  have HK25 := Lib.hid hk30
  obtain ⟨k40, hk40⟩ : ∃ k, k = 18 := ⟨_, rfl⟩
  rw [← hk40] at z29
  have nk40 : ¬ k40 = 0 := by omega
  have HK29 := Lib.hid hk40
  have hP : Tryz.prog = PD := rfl
  rw [hP] at t3 u3 g3 z3 t4 u4 g4 z4 t25 u25 g25 z25 t29 u29 g29 z29 t50 u50 g50 z50 t73 u73 g73 z73 t103 u103 g103 z103 t101 u101 g101 z101 t97 u97 g97 z97 c79 mixed v40 hEQ q40 ⊢
  have HP := Lib.hid hP.symm
  clear hP hk30 hk40
  have hAk : A.size = k30 := by rw [HK25.out]; exact hsz
  have hHk : H.size = k30 := by rw [HK25.out]; exact hHs
  have hKk : K.size = k30 := by rw [HK25.out]; exact hKs
  have hZk : Z.size = k40 := by rw [HK29.out]; exact hz18
  have hQk : Q.size = k40 := by rw [HK29.out]; exact HQ.out.1
  have HL : Hid (∀ w', Fr No (w.alloc (.cells A 25)) w' → Sem.run PD (loadCellsFrom ⟨w.heap.size, 0, none⟩ 0 k30 #[]) w' = .ok A w' ∧ Sem.run PD (loadCellsFrom ⟨g, 0, none⟩ 0 k30 #[]) w' = .ok K w') := fun w' hf => ⟨load_block (HB.out w' hf).2.1 hAk (fun j v hv => by simpa using hv), load_block (HB.out w' hf).1 hKk HP0.out.1⟩
  clear hsz hz18 hHs hKs
  go_upto_region 1 with fail
  have HS : Hid (∀ w', Fr No (w.alloc (.cells A 25)) w' → Fr No (w.alloc (.cells A 25)) w' ∧ Sem.run PD (loadCellsFrom ⟨w.heap.size, 0, none⟩ 0 k30 #[]) w' = .ok A w' ∧ w'.cell? ⟨g, 17, none⟩ = some (.int .i64 n)) := fun w' hf => ⟨hf, (HL.out w' hf).1, (HB.out w' hf).2.2⟩
  have f1 := HS.out _ (Fr.drew No (w.alloc (.cells A 25)))
  have HN : Hid (((w.alloc (.cells A 25)).drew.alloc (.cells Z 29)).heap[w.heap.size + 1]? = some (.cells Z 29 (0, 0)) ∧ (w.alloc (.cells A 25)).heap.size = w.heap.size + 1) := by
    have h1 := heap_alloc_new (w.alloc (.cells A 25)).drew (.cells Z 29)
    have h2 : (w.alloc (.cells A 25)).heap.size = w.heap.size + 1 := by simp
    exact ⟨by rw [show (w.alloc (.cells A 25)).drew.heap.size = w.heap.size + 1 from h2] at h1; exact h1, h2⟩
  go_region_held3 (fun w' => Fr No (w.alloc (.cells A 25)) w' ∧ Sem.run PD (loadCellsFrom ⟨w.heap.size, 0, none⟩ 0 k30 #[]) w' = .ok A w' ∧ w'.cell? ⟨g, 17, none⟩ = some (.int .i64 n)) (first | assumption | (refine HS.out _ ?_; first | assumption | exact Fr.trans (And.left (by assumption)) hf3 | exact Fr.trans (And.left (by assumption)) (Fr.alloc No _ _) | exact K3)) (first | (go_at_call 79; go_loud (refine (at_prog HP.out (HPO.out _)).mono ?_; rintro e w3 ⟨rfl, hf3⟩; have K2 : Fr No (w.alloc (.cells A 25)) w3 := Fr.trans (And.left (by assumption)) hf3; first | (obtain ⟨y, hst, hyb, hyf⟩ := store_all (P := PD) Q.toList (hf3.keep HN.out.1) (by rw [Array.length_toList, hQk, hZk]) HQ.out.2; have K3 : Fr No (w.alloc (.cells A 25)) y := K2.ofNew hyf (fun k hk => .inr (by rw [hk, HN.out.2]; exact Nat.le_refl _))) | (obtain ⟨y, hst, hyb, hyf⟩ := store_all (P := PD) Q.toList (heap_alloc_new w3 (.cells Z 29)) (by rw [Array.length_toList, hQk, hZk]) HQ.out.2; have K3 : Fr No (w.alloc (.cells A 25)) y := (K2.trans (Fr.alloc No w3 (.cells Z 29))).ofNew hyf (fun k hk => .inr (by rw [hk]; exact K2.size))))))
  all_goals (
    have HK3 : Hid (Fr No w y) := HF.out.1.trans K3
    first | (obtain ⟨cb, hcb⟩ : ∃ cb, w3.heap.size = cb := ⟨_, rfl⟩; rw [hcb] at hyb ⊢) | (obtain ⟨cb, hcb⟩ : ∃ cb, w.heap.size + 1 = cb := ⟨_, rfl⟩; rw [hcb] at hyb ⊢)
    have HY : Hid (∀ w', Fr No y w' → Sem.run PD (loadCellsFrom ⟨cb, 0, none⟩ 0 k30 #[]) w' = .ok H w' ∧ Sem.run PD (loadCellsFrom ⟨g, 0, none⟩ 0 k30 #[]) w' = .ok K w') := fun w' hf => ⟨load_block (hf.keep hyb) hHk (fun j v hv => by simpa using HP0.out.2 j v hv), (HL.out w' (K3.trans hf)).2⟩
    clear hcb hst hyb hyf f1 K2 hf3 hgl
    have f2 := HY.out _ (Fr.drew No y)
    go_upto_region 2 with fail
    cases eq
    all_goals (
      go_region_held3 (fun w' => Sem.run PD (loadCellsFrom ⟨cb, 0, none⟩ 0 k30 #[]) w' = .ok H w' ∧ Sem.run PD (loadCellsFrom ⟨g, 0, none⟩ 0 k30 #[]) w' = .ok K w') (assumption) (fail)
      go_wp2_with fail
      go_ret
      exact ⟨rfl, HK3.out.trans (Fr.drew No y)⟩))
end Go.Proofs.YtnadendhboiliaaGreat
namespace Go.Proofs.YtnadendhboiliaaGreat
open Go.ChangeShapes Go.WideShapes Go.ChangeAt Go.RowKit
set_option linter.unusedVariables false

/-- How many nodes. -/
def szL : Tr → Nat
  | .nil => 0
  | .node _ _ _ l r => szL l + szL r + 1
set_option maxHeartbeats 4000000 in
set_option maxRecDepth 100000 in
theorem findL (p : Px) (hp : Bytes p.xs) (t : Tr) (ab ao : Nat) (w : World) (hi : In 103 50 w t) (hw : Wf t) (ha : w.cell? ⟨ab, ao, none⟩ = some (rt t)) :
    Calls Tryz.prog 62 #[.pointer (some ⟨ab, ao, none⟩), .agg (pfx p.b p.xs p.n).toArray] w fun e w' => e = .returned (.pointer (some (slotOf ⟨ab, ao, none⟩ t (fp t p)))) ∧ Fr No w w' := by
  obtain ⟨P, hP0, -, -, hPs, hPA, -⟩ := pfx_letter p.b p.xs p.n hp
  obtain ⟨B, hB, -, hBs, -⟩ := adr_letter p.b p.xs hp
  rw [hB] at hPA
  rw [hP0]
  have hF0 := Fr.alloc No w (.cells P 29)
  have hb0 := heap_alloc_new w (.cells P 29)
  have ha1 := hF0.cell ha
  have HI : Hid (In 103 50 (w.alloc (.cells P 29)) t ∧ Wf t ∧ Fr No w (w.alloc (.cells P 29)) ∧ (w.alloc (.cells P 29)).heap[w.heap.size]? = some (.cells P 29 (0, 0))) := ⟨hi.no hF0, hw, hF0, hb0⟩
  have HPP := Lib.hid (And.intro hP0 (And.intro hB (And.intro hPA hp)))
  have HA := Lib.hid ha1
  have q31 := Tryz.eqGuardType29
  clear hi hw hF0 hb0 hP0 hB hPA hp ha
  go_enter Tryz.func62, Tryz.ntmps62
  have t3 := Tryz.underlying3
  have u3 := Tryz.runUnderlying3
  have g3 := Tryz.isAgg3
  have z3 := Tryz.sizeOf3
  have t4 := Tryz.underlying4
  have u4 := Tryz.runUnderlying4
  have g4 := Tryz.isAgg4
  have z4 := Tryz.sizeOf4
  have t25 := Tryz.underlying25
  have u25 := Tryz.runUnderlying25
  have g25 := Tryz.isAgg25
  have z25 := Tryz.sizeOf25
  have t29 := Tryz.underlying29
  have u29 := Tryz.runUnderlying29
  have g29 := Tryz.isAgg29
  have z29 := Tryz.sizeOf29
  have t50 := Tryz.underlying50
  have u50 := Tryz.runUnderlying50
  have g50 := Tryz.isAgg50
  have z50 := Tryz.sizeOf50
  have t73 := Tryz.underlying73
  have u73 := Tryz.runUnderlying73
  have g73 := Tryz.isAgg73
  have z73 := Tryz.sizeOf73
  have t103 := Tryz.underlying103
  have u103 := Tryz.runUnderlying103
  have g103 := Tryz.isAgg103
  have z103 := Tryz.sizeOf103
  have t101 := Tryz.underlying101
  have u101 := Tryz.runUnderlying101
  have g101 := Tryz.isAgg101
  have z101 := Tryz.sizeOf101
  have t97 := Tryz.underlying97
  have u97 := Tryz.runUnderlying97
  have g97 := Tryz.isAgg97
  have z97 := Tryz.sizeOf97
  have c80 := Tryz.call80
  have c81 := Tryz.call81
  have mixed : Tryz.prog.follows .mixedOrders = true := by kernel_rfl
  obtain ⟨k30, hk30⟩ : ∃ k, k = 17 := ⟨_, rfl⟩
  rw [← hk30] at z25
  have nk30 : ¬ k30 = 0 := by omega
  have HK25 := Lib.hid hk30
  obtain ⟨k40, hk40⟩ : ∃ k, k = 18 := ⟨_, rfl⟩
  rw [← hk40] at z29
  have nk40 : ¬ k40 = 0 := by omega
  have HK29 := Lib.hid hk40
  have hP : Tryz.prog = PD := rfl
  rw [hP] at t3 u3 g3 z3 t4 u4 g4 z4 t25 u25 g25 z25 t29 u29 g29 z29 t50 u50 g50 z50 t73 u73 g73 z73 t103 u103 g103 z103 t101 u101 g101 z101 t97 u97 g97 z97 c80 c81 mixed q31 ⊢
  have HP := Lib.hid hP.symm
  clear hP hk30 hk40
  have hPk : P.size = k40 := by rw [HK29.out]; exact hPs
  have hBk : B.size = k30 := by rw [HK25.out]; exact hBs
  clear hPs hBs
  go_wp2_with fail
  clear ha1
  obtain ⟨w1, hw1⟩ : ∃ w1, w.alloc (.cells P 29) = w1 := ⟨_, rfl⟩
  obtain ⟨pb, hpb⟩ : ∃ pb, w.heap.size = pb := ⟨_, rfl⟩
  rw [hw1, hpb] at HI
  rw [hw1] at HA
  rw [hw1, hpb]
  clear hw1 hpb
  go_loopg [0, 5] (szL t + 1) (fun g s0 s5 wr => ∃ (cb co : Nat) (u : Tr), s0 = .pointer (some ⟨cb, co, none⟩) ∧ s5 = rt u ∧ szL u < g ∧ Hid (In 103 50 wr u ∧ Wf u ∧ wr.cell? ⟨cb, co, none⟩ = some (rt u) ∧ slotOf ⟨cb, co, none⟩ u (fp u p) = slotOf ⟨ab, ao, none⟩ t (fp t p) ∧ Fr No w1 wr))
  case atStart => exact ⟨ab, ao, t, rfl, rfl, by omega, HI.out.1, HI.out.2.1, HA.out, rfl, Fr.refl _ _⟩
  case round =>
    obtain ⟨cb, co, u, rfl, rfl, hug, HR⟩ := hrel
    cases u with
    | nil =>
      have e : rt Tr.nil = .pointer none := rfl
      rw [e]
      go_wp2_with fail
      go_quiet (fail)
      go_wp2_with fail
      go_ret
      exact ⟨by rw [← HR.out.2.2.2.1]; rfl, HI.out.2.2.1.trans (HR.out.2.2.2.2.trans (Fr.drewN _ _ _))⟩
    | node g q v l r =>
      have e : rt (Tr.node g q v l r) = .pointer (some ⟨g, 0, none⟩) := rfl
      rw [e]
      have hwq : okP q := HR.out.2.1.1
      obtain ⟨K, hK, -, -, hKs, -, -⟩ := pfx_letter q.b q.xs q.n hwq.1
      obtain ⟨C, hC⟩ : ∃ C, (cellsOf q v l r).toArray = C := ⟨_, rfl⟩
      have hKk : K.size = k40 := by rw [HK29.out]; exact hKs
      have HL : Hid (∀ w', Fr No wr w' → Fr No wr w' ∧ Sem.run PD (loadCellsFrom ⟨g, 0, none⟩ 0 k40 #[]) w' = .ok K w' ∧ Sem.run PD (loadCellsFrom ⟨pb, 0, none⟩ 0 k40 #[]) w' = .ok P w' ∧ Sem.run PD (loadCellsFrom ⟨pb, 0, none⟩ 0 k30 #[]) w' = .ok B w') := fun w' hf => ⟨hf, load_block (hf.keep HR.out.1.1) hKk (fun j u hu => cellsOf_pfx j u (by rw [hK]; exact hu)), load_block ((HR.out.2.2.2.2.trans hf).keep HI.out.2.2.2) hPk (fun j u hu => by simpa using hu), load_block ((HR.out.2.2.2.2.trans hf).keep HI.out.2.2.2) hBk (adr_part (by rw [hBk, HK25.out]) HPP.out.2.2.1)⟩
      have hEQ : ∀ w', Sem.run PD (Op.equalIn 10000 29 (.agg K) (.agg P)) w' = .ok (decide (q = p)) w' := fun w' => by
        rw [HP.out, ← hK, ← HPP.out.1, pfx_eq q.n p.n hwq.1 HPP.out.2.2.2 w']
        congr 1
        exact decide_eq_decide.2 Px.eq_iff
      have HCV : Hid (∀ w', Calls Tryz.prog 80 #[.agg K, .agg P] w' fun e w'' => e = .returned (.bool (cov q p)) ∧ Fr No w' w'') := fun w' => by rw [← hK, ← HPP.out.1]; exact cov_any q.b p.b q.xs p.xs q.n p.n hwq.1 HPP.out.2.2.2 w'
      have HSD : Hid (∀ w', Fr No wr w' → Calls Tryz.prog 81 #[.pointer (some ⟨g, 0, none⟩), .agg B] w' fun e w'' => e = .returned (.pointer (some ⟨g, if sideB q p.b p.xs = true then 20 else 19, none⟩)) ∧ Fr No w' w'') := fun w' hf => by rw [← HPP.out.2.1]; exact sdL g q v l r p.b p.xs hwq HPP.out.2.2.2 w' (hf.keep HR.out.1.1)
      have HQ : Hid ((pfx q.b q.xs q.n).toArray = K) := hK
      have f2 := HL.out _ (Fr.drew No wr)
      clear hK hKs hwq hC e
      by_cases hqp : q = p
      · have HE : Hid (fp (Tr.node g q v l r) p = []) := by show _ = _; rw [fp, if_neg (fun h => h.1 hqp)]
        rw [decide_eq_true hqp] at hEQ
        have HQP := Lib.hid hqp
        clear hqp
        have lq1 := fun m => (HL.out (wr.drewN m) (Fr.drewN _ _ _)).2.1
        have lq2 := fun m => (HL.out (wr.drewN m) (Fr.drewN _ _ _)).2.2.1
        go_wp2_with fail
        go_quiet (fail)
        go_wp2_with fail
        go_ret
        exact ⟨by rw [← HR.out.2.2.2.1, HE.out]; rfl, HI.out.2.2.1.trans (HR.out.2.2.2.2.trans (Fr.drewN _ _ _))⟩
      · rw [decide_eq_false hqp] at hEQ
        have HQP := Lib.hid hqp
        clear hqp
        cases hcv : cov q p
        · have HE : Hid (fp (Tr.node g q v l r) p = []) := by show _ = _; rw [fp, if_neg (fun h => by rw [hcv] at h; exact Bool.noConfusion h.2)]
          rw [hcv] at HCV
          clear hcv
          go_wp2_with fail
          go_region_held3 (fun w' => Fr No wr w' ∧ Sem.run PD (loadCellsFrom ⟨g, 0, none⟩ 0 k40 #[]) w' = .ok K w' ∧ Sem.run PD (loadCellsFrom ⟨pb, 0, none⟩ 0 k40 #[]) w' = .ok P w' ∧ Sem.run PD (loadCellsFrom ⟨pb, 0, none⟩ 0 k30 #[]) w' = .ok B w') (first | assumption | exact HL.out _ (Fr.trans (And.left (by assumption)) hf3)) (first | (go_at_call 80; go_loud (refine (at_prog HP.out (HCV.out _)).mono ?_; rintro e w3 ⟨rfl, hf3⟩; have K3 : Fr No wr w3 := Fr.trans (And.left (by assumption)) hf3)))
          go_wp2_with fail
          go_ret
          exact ⟨by rw [← HR.out.2.2.2.1, HE.out]; rfl, HI.out.2.2.1.trans (HR.out.2.2.2.2.trans K3)⟩
        · cases hsd : sideB q p.b p.xs
          · have HE : Hid (fp (Tr.node g q v l r) p = false :: fp l p) := by show _ = _; rw [fp, if_pos ⟨HQP.out, hcv⟩, if_neg (by rw [hsd]; decide)]
            have HCL : Hid (∀ w', Fr No wr w' → w'.cell? ⟨g, 19, none⟩ = some (rt l)) := fun w' hf => cell_of (hf.keep HR.out.1.1) (cellsOf_at HR.out.2.1.1.1 v l r).2.1
            rw [hcv] at HCV
            rw [hsd, if_neg (by decide)] at HSD
            clear hcv hsd
            go_wp2_with fail
            go_region_held3 (fun w' => Fr No wr w' ∧ Sem.run PD (loadCellsFrom ⟨g, 0, none⟩ 0 k40 #[]) w' = .ok K w' ∧ Sem.run PD (loadCellsFrom ⟨pb, 0, none⟩ 0 k40 #[]) w' = .ok P w' ∧ Sem.run PD (loadCellsFrom ⟨pb, 0, none⟩ 0 k30 #[]) w' = .ok B w') (first | assumption | exact HL.out _ (Fr.trans (And.left (by assumption)) hf3)) (first | (go_at_call 80; go_loud (refine (at_prog HP.out (HCV.out _)).mono ?_; rintro e w3 ⟨rfl, hf3⟩; have K3 : Fr No wr w3 := Fr.trans (And.left (by assumption)) hf3)))
            have lb3 := (HL.out w3 K3).2.2.2
            go_wp2_with (first | (go_at_call 81; go_loud (refine (at_prog HP.out (HSD.out _ K3)).mono ?_; rintro e w4 ⟨rfl, hf4⟩; have K4 := K3.trans hf4; have hc4 := HCL.out _ K4)) | fail)
            go_roundg (szL (Tr.node g q v l r))
            case measure => exact hug
            case rel => exact ⟨g, 19, l, rfl, rfl, by show szL l < szL l + szL r + 1; omega, HR.out.1.2.2.1.no K4, HR.out.2.1.2.2.2.1, hc4, by rw [← HR.out.2.2.2.1, HE.out, slotOf, if_neg (by decide)], HR.out.2.2.2.2.trans K4⟩
          · have HE : Hid (fp (Tr.node g q v l r) p = true :: fp r p) := by show _ = _; rw [fp, if_pos ⟨HQP.out, hcv⟩, if_pos (by rw [hsd])]
            have HCL : Hid (∀ w', Fr No wr w' → w'.cell? ⟨g, 20, none⟩ = some (rt r)) := fun w' hf => cell_of (hf.keep HR.out.1.1) (cellsOf_at HR.out.2.1.1.1 v l r).2.2
            rw [hcv] at HCV
            rw [hsd, if_pos rfl] at HSD
            clear hcv hsd
            go_wp2_with fail
            go_region_held3 (fun w' => Fr No wr w' ∧ Sem.run PD (loadCellsFrom ⟨g, 0, none⟩ 0 k40 #[]) w' = .ok K w' ∧ Sem.run PD (loadCellsFrom ⟨pb, 0, none⟩ 0 k40 #[]) w' = .ok P w' ∧ Sem.run PD (loadCellsFrom ⟨pb, 0, none⟩ 0 k30 #[]) w' = .ok B w') (first | assumption | exact HL.out _ (Fr.trans (And.left (by assumption)) hf3)) (first | (go_at_call 80; go_loud (refine (at_prog HP.out (HCV.out _)).mono ?_; rintro e w3 ⟨rfl, hf3⟩; have K3 : Fr No wr w3 := Fr.trans (And.left (by assumption)) hf3)))
            have lb3 := (HL.out w3 K3).2.2.2
            go_wp2_with (first | (go_at_call 81; go_loud (refine (at_prog HP.out (HSD.out _ K3)).mono ?_; rintro e w4 ⟨rfl, hf4⟩; have K4 := K3.trans hf4; have hc4 := HCL.out _ K4)) | fail)
            go_roundg (szL (Tr.node g q v l r))
            case measure => exact hug
            case rel => exact ⟨g, 20, r, rfl, rfl, by show szL r < szL l + szL r + 1; omega, HR.out.1.2.2.2.no K4, HR.out.2.1.2.2.2.2, hc4, by rw [← HR.out.2.2.2.1, HE.out, slotOf, if_pos rfl], HR.out.2.2.2.2.trans K4⟩
end Go.Proofs.YtnadendhboiliaaGreat
namespace Go.Proofs.YtnadendhboiliaaGreat
open Go.ChangeShapes Go.WideShapes Go.ChangeAt Go.RowKit
set_option linter.unusedVariables false

theorem zeroTL : ∀ w, (zeroValue 75).run Tryz.prog w = .ok (.agg #[.pointer none, .pointer none, .int .i64 0]) w := by
  intro w
  kernel_rfl

set_option maxHeartbeats 4000000 in
set_option maxRecDepth 100000 in
theorem newL (w : World) :
    Calls Tryz.prog 19 #[] w fun e w' => ∃ a, e = .returned (.pointer (some ⟨a, 0, none⟩)) ∧ w.heap.size ≤ a ∧ Fr No w w' ∧ Tri 103 50 75 w' a .nil .nil := by
  have v := zeroTL
  go_enter Tryz.func19, Tryz.ntmps19
  go_wp2_with fail
  go_ret
  refine ⟨w.heap.size, rfl, Nat.le_refl _, Fr.alloc _ _ _, heap_alloc_new w _, trivial, trivial, ?_, trivial, trivial, fun q hq => (by cases hq), fun q hq => (by cases hq)⟩
  exact List.nodup_cons.2 ⟨List.not_mem_nil, List.nodup_nil⟩

set_option maxHeartbeats 4000000 in
set_option maxRecDepth 100000 in
theorem rootL (a : Nat) (c : Bool) (ys : List Nat) (hy : Bytes ys) (w : World) :
    Calls Tryz.prog 63 #[.pointer (some ⟨a, 0, none⟩), .agg (adr c ys).toArray] w fun e w' => e = .returned (.pointer (some ⟨a, if c = true then 1 else 0, none⟩)) ∧ Fr No w w' := by
  obtain ⟨A, hA, h0, hsz, -⟩ := adr_letter c ys hy
  rw [hA]
  have c0 : (w.alloc (.cells A 25)).cell? ⟨w.heap.size, 0, none⟩ = some (.bool c) := cell_of (heap_alloc_new w _) h0
  clear hA h0 hsz hy
  cases c
  all_goals (
    go_enter Tryz.func63, Tryz.ntmps63
    go_wp2_with fail
    go_ret
    exact ⟨rfl, Fr.alloc _ _ _⟩)

end Go.Proofs.YtnadendhboiliaaGreat
namespace Go.Proofs.YtnadendhboiliaaGreat
open Go.ChangeShapes Go.WideShapes Go.ChangeAt Go.RowKit
set_option linter.unusedVariables false

set_option maxHeartbeats 4000000 in
set_option maxRecDepth 100000 in
theorem com_any (p q : Px) (hp : okP p) (hq : okP q) (hb : p.b = q.b) (w : World) :
    Calls Tryz.prog 82 #[.agg (pfx p.b p.xs p.n).toArray, .agg (pfx q.b q.xs q.n).toArray] w fun e w' => e = .returned (.agg (pfx (com p q).b (com p q).xs (com p q).n).toArray) ∧ Fr No w w' := by
  obtain ⟨Z, hZ⟩ : ∃ Z : Array Value, noP.toArray = Z := ⟨_, rfl⟩
  have v40 := zero29
  rw [hZ] at v40
  have hz18 : Z.size = 18 := by rw [← hZ]; rfl
  obtain ⟨P, hP0, -, hP17, hPs, hPA, -⟩ := pfx_letter p.b p.xs p.n hp.1
  obtain ⟨Q, hQ0, -, hQ17, hQs, hQA, -⟩ := pfx_letter q.b q.xs q.n hq.1
  obtain ⟨A, hA, -, hsz, -⟩ := adr_letter p.b p.xs hp.1
  obtain ⟨B, hB, -, hszb, -⟩ := adr_letter q.b q.xs hq.1
  rw [hA] at hPA
  rw [hB] at hQA
  rw [hP0, hQ0]
  have hp0 := hp.parts.2.1
  have hq0 := hq.parts.2.1
  have hp1 := ok_le hp
  have hq1 := ok_le hq
  obtain ⟨K, hK⟩ : ∃ K : Nat, (K : Int) = min p.n q.n := ⟨(min p.n q.n).toNat, by omega⟩
  have hKp : (K : Int) ≤ p.n := by omega
  have hK128 : K ≤ 128 := by omega
  -- what PrefixOf gives
  obtain ⟨C, hC⟩ : ∃ C : Nat → Array Value, (fun k : Nat => (pfx p.b (pofX p.b p.xs (k : Int)) (k : Int)).toArray) = C := ⟨_, rfl⟩
  have hCk : ∀ k : Nat, (pfx p.b (pofX p.b p.xs (k : Int)) (k : Int)).toArray = C k := fun k => by rw [← hC]
  have hCs : ∀ k, (C k).size = 18 := fun k => by rw [← hCk, List.size_toArray]; exact pfx_length (pofX_bytes hp.1 _).1
  have hC1 : ∀ k, ∀ u ∈ (C k).toList, u.oneCell' = true := fun k => by rw [← hCk]; intro u hu; exact pfx_one _ _ _ u (by simpa using hu)
  have hC17 : ∀ k : Nat, (C k)[17]? = some (.int .i64 k) := fun k => by
    obtain ⟨T, hT, -, hT17, -, -, -⟩ := pfx_letter p.b (pofX p.b p.xs (k : Int)) (k : Int) (pofX_bytes hp.1 _)
    rw [← hCk, hT]; exact hT17
  have HPO : Hid (∀ k : Nat, k ≤ K → ∀ w', Calls Tryz.prog 79 #[.agg A, .int .i64 (k : Int)] w' fun e w'' => e = .returned (.tuple #[.agg (C k), .bool true]) ∧ Fr No w' w'') := fun k hk w' => by
    have h := pof_any p.b p.xs (k : Int) hp.1 w'
    have hb := pofB_ok hp (k := k) (by omega)
    unfold pofT at h
    rw [hb, if_pos rfl, hCk, hA] at h
    exact h
  obtain ⟨hs, hhs⟩ : ∃ hs : Nat → Bool, (fun k : Nat => has (pofP p.b p.xs (k : Int)) q.b q.xs) = hs := ⟨_, rfl⟩
  have HCT : Hid (∀ (k : Nat) w', Calls Tryz.prog 61 #[.agg (C k), .agg B] w' fun e w'' => e = .returned (.bool (hs k)) ∧ Fr No w' w'') := fun k w' => by
    rw [← hCk, ← hB, ← hhs]
    exact cont_any p.b q.b _ q.xs _ (pofX_bytes hp.1 _) hq.1 w'
  have HK0 : Hid ((∀ k, hs (k + 1) = true → comK p q (k + 1) = k + 1) ∧ (∀ k, hs (k + 1) = false → comK p q (k + 1) = comK p q k) ∧ hs 0 = true ∧ comK p q 0 = 0 ∧ (min p.n q.n).toNat = K ∧ ∀ k : Nat, comK p q K = k → (pfx (com p q).b (com p q).xs (com p q).n).toArray = C k) := by
    refine ⟨fun k hk => ?_, fun k hk => ?_, ?_, rfl, by omega, fun k hk => ?_⟩
    · rw [← hhs] at hk
      rw [comK, if_pos hk]
    · rw [← hhs] at hk
      have hk2 : has (pofP p.b p.xs ((k + 1 : Nat) : Int)) q.b q.xs = false := hk
      rw [comK, if_neg (by rw [hk2]; decide)]
    · rw [← hhs]
      exact (pofP_has hp hq hb (k := 0) (by omega)).2 fun i hi => absurd hi (Nat.not_lt_zero _)
    · have hc : com p q = pofP p.b p.xs k := by unfold com; rw [show (min p.n q.n).toNat = K by omega, hk]
      rw [hc, ← hCk]; rfl
  obtain ⟨b1, b2, b3, hF⟩ := alloc3 w (.cells P 29) (.cells Q 29) (.cells Z 29)
  have HB : Hid ((((w.alloc (.cells P 29)).alloc (.cells Q 29)).alloc (.cells Z 29)).heap[w.heap.size]? = some (.cells P 29 (0, 0)) ∧ (((w.alloc (.cells P 29)).alloc (.cells Q 29)).alloc (.cells Z 29)).heap[w.heap.size + 1]? = some (.cells Q 29 (0, 0)) ∧ (((w.alloc (.cells P 29)).alloc (.cells Q 29)).alloc (.cells Z 29)).heap[w.heap.size + 1 + 1]? = some (.cells Z 29 (0, 0)) ∧ Fr No w (((w.alloc (.cells P 29)).alloc (.cells Q 29)).alloc (.cells Z 29))) := ⟨b1, b2, b3, hF⟩
  have l1 : Sem.run Tryz.prog (loadCellsFrom ⟨w.heap.size, 0, none⟩ 0 17 #[]) (((w.alloc (.cells P 29)).alloc (.cells Q 29)).alloc (.cells Z 29)) = .ok A (((w.alloc (.cells P 29)).alloc (.cells Q 29)).alloc (.cells Z 29)) := load_block b1 hsz (adr_part hsz hPA)
  have c1 : (((w.alloc (.cells P 29)).alloc (.cells Q 29)).alloc (.cells Z 29)).cell? ⟨w.heap.size, 17, none⟩ = some (.int .i64 p.n) := by rw [cell_of_row _ _ _ _ _ _ b1]; exact hP17
  have c2 : (((w.alloc (.cells P 29)).alloc (.cells Q 29)).alloc (.cells Z 29)).cell? ⟨w.heap.size + 1, 17, none⟩ = some (.int .i64 q.n) := by rw [cell_of_row _ _ _ _ _ _ b2]; exact hQ17
  have HPA := Lib.hid (And.intro (adr_part hsz hPA) (And.intro (adr_part hszb hQA) (And.intro hCs (And.intro hC1 hC17))))
  have hmin : min p.n q.n = (K : Int) := hK.symm
  clear b1 b2 b3 hF hZ hP0 hQ0 hA hB hPA hQA hP17 hQ17 hC hCk hCs hC1 hC17 hhs hK hp0 hq0 hp1 hq1 hp hq hb
  go_enter Tryz.func82, Tryz.ntmps82
  have t3 := Tryz.underlying3
  have u3 := Tryz.runUnderlying3
  have g3 := Tryz.isAgg3
  have z3 := Tryz.sizeOf3
  have t4 := Tryz.underlying4
  have u4 := Tryz.runUnderlying4
  have g4 := Tryz.isAgg4
  have z4 := Tryz.sizeOf4
  have t25 := Tryz.underlying25
  have u25 := Tryz.runUnderlying25
  have g25 := Tryz.isAgg25
  have z25 := Tryz.sizeOf25
  have t29 := Tryz.underlying29
  have u29 := Tryz.runUnderlying29
  have g29 := Tryz.isAgg29
  have z29 := Tryz.sizeOf29
  have c61 := Tryz.call61
  have c79 := Tryz.call79
  have mixed : Tryz.prog.follows .mixedOrders = true := by kernel_rfl
  obtain ⟨k30, hk30⟩ : ∃ k, k = 17 := ⟨_, rfl⟩
  rw [← hk30] at z25
  have nk30 : ¬ k30 = 0 := by omega
  have HK25 := Lib.hid hk30
  obtain ⟨k40, hk40⟩ : ∃ k, k = 18 := ⟨_, rfl⟩
  rw [← hk40] at z29
  have nk40 : ¬ k40 = 0 := by omega
  have HK29 := Lib.hid hk40
  have hP : Tryz.prog = PD := rfl
  rw [hP] at t3 u3 g3 z3 t4 u4 g4 z4 t25 u25 g25 z25 t29 u29 g29 z29 c61 c79 mixed v40 l1 ⊢
  have HP := Lib.hid hP.symm
  clear hP hk30 hk40
  rw [← HK25.out] at l1
  have hAk : A.size = k30 := by rw [HK25.out]; exact hsz
  have hBk : B.size = k30 := by rw [HK25.out]; exact hszb
  have hZk : Z.size = k40 := by rw [HK29.out]; exact hz18
  have hCk : ∀ k, (C k).size = k40 := fun k => by rw [HK29.out]; exact HPA.out.2.2.1 k
  clear hsz hszb hz18 hPs hQs
  go_wp2_with (first | (go_at_call 79; go_loud (refine (at_prog HP.out (HPO.out K (Nat.le_refl _) _)).mono ?_; rintro e w3 ⟨rfl, hf3⟩; obtain ⟨y, hst, hyb, hyf⟩ := store_all (P := PD) (C K).toList (heap_alloc_new w3 (.cells Z 29)) (by rw [Array.length_toList, hCk, hZk]) (HPA.out.2.2.2.1 K))) | fail)
  obtain ⟨cb, hcb⟩ : ∃ cb, w3.heap.size = cb := ⟨_, rfl⟩
  obtain ⟨m, hm⟩ : ∃ m, w.heap.size = m := ⟨_, rfl⟩
  have hsz3 : (((w.alloc (.cells P 29)).alloc (.cells Q 29)).alloc (.cells Z 29)).heap.size = m + 1 + 1 + 1 := by rw [← hm]; simp
  have hge := hf3.size
  rw [hsz3, hcb] at hge
  have HN : Hid (Fr No w y ∧ y.heap[m]? = some (.cells P 29 (0, 0)) ∧ y.heap[m + 1]? = some (.cells Q 29 (0, 0)) ∧ y.heap[m + 1 + 1]? = some (.cells Z 29 (0, 0)) ∧ y.heap[cb]? = some (.cells (C K) 29 (0, 0)) ∧ m + 1 + 1 < cb) := by
    have h0 : Fr No (((w.alloc (.cells P 29)).alloc (.cells Q 29)).alloc (.cells Z 29)) y := (hf3.trans (Fr.alloc No w3 (.cells Z 29))).ofNew hyf fun k hk => .inr (by rw [hk]; exact hf3.size)
    rw [← hm]
    exact ⟨HB.out.2.2.2.trans h0, h0.keep HB.out.1, h0.keep HB.out.2.1, h0.keep HB.out.2.2.1, by rw [← hcb]; simpa using hyb, by rw [hm]; omega⟩
  rw [hcb, hm]
  have Hm := Lib.hid hm
  clear hst hyb hyf hf3 hsz3 hge hcb hm HB l1 c1 c2
  go_loopg [6] (K + 1) (fun g s wr => ∃ k : Nat, s = .bool true ∧ k ≤ K ∧ k < g ∧ Hid (comK p q k = comK p q K ∧ Fr (fun j => j = cb) y wr ∧ wr.heap[cb]? = some (.cells (C k) 29 (0, 0))))
  case atStart => exact ⟨K, rfl, Nat.le_refl _, by omega, rfl, Fr.refl _ _, HN.out.2.2.2.2.1⟩
  case round =>
    obtain ⟨k, rfl, hkK, hkg, HR⟩ := hrel
    have HL : Hid (∀ w', Fr No wr w' → Sem.run PD (loadCellsFrom ⟨m, 0, none⟩ 0 k30 #[]) w' = .ok A w' ∧ Sem.run PD (loadCellsFrom ⟨m + 1, 0, none⟩ 0 k30 #[]) w' = .ok B w' ∧ Sem.run PD (loadCellsFrom ⟨cb, 0, none⟩ 0 k40 #[]) w' = .ok (C k) w' ∧ w'.heap[m + 1 + 1]? = some (.cells Z 29 (0, 0)) ∧ w'.heap[cb]? = some (.cells (C k) 29 (0, 0))) := fun w' hf => by
      have kb : ∀ j o, j ≠ cb → y.heap[j]? = some o → w'.heap[j]? = some o := fun j o hj h => hf.keep ((HR.out.2.1.block j (Array.getElem?_eq_some_iff.1 h).1 hj).trans h)
      have hlt := HN.out.2.2.2.2.2
      have h1 := hf.keep HR.out.2.2
      exact ⟨load_block (kb m _ (by omega) HN.out.2.1) hAk HPA.out.1, load_block (kb (m + 1) _ (by omega) HN.out.2.2.1) hBk HPA.out.2.1, load_block h1 (hCk k) (fun j v hv => by simpa using hv), kb (m + 1 + 1) _ (by omega) HN.out.2.2.2.1, h1⟩
    have lb := (HL.out wr (Fr.refl _ _)).2.1
    have lc := (HL.out wr (Fr.refl _ _)).2.2.1
    cases hk : hs k
    · obtain ⟨j, rfl⟩ : ∃ j, k = j + 1 := ⟨k - 1, by
        cases k with
        | zero => rw [HK0.out.2.2.1] at hk; cases hk
        | succ j => rfl⟩
      have HE : Hid (comK p q j = comK p q K) := by have h := HK0.out.2.1 j hk; rw [HR.out.1] at h; exact h.symm
      have HCT2 : Hid (∀ w', Calls Tryz.prog 61 #[.agg (C (j + 1)), .agg B] w' fun e w'' => e = .returned (.bool false) ∧ Fr No w' w'') := fun w' => by rw [← hk]; exact HCT.out (j + 1) w'
      have HPO2 := Lib.hid (HPO.out j (by omega))
      have HC17 : Hid (∀ w', Fr No wr w' → w'.cell? ⟨cb, 17, none⟩ = some (.int .i64 ((j : Int) + 1))) := fun w' hf => by
        rw [cell_of_row _ _ _ _ _ _ (HL.out w' hf).2.2.2.2, HPA.out.2.2.2.2]
        simp
      have hj0 : (0 : Int) ≤ (j : Int) := by omega
      have hj1 : (j : Int) ≤ 128 := by omega
      clear hk
      go_wp2_with (first | (go_at_call 61; go_loud (refine (at_prog HP.out (HCT2.out _)).mono ?_; rintro e w5 ⟨rfl, hf5⟩; have la5 := (HL.out w5 hf5).1; have c5 := HC17.out w5 hf5)) | (go_at_call 79; go_loud (refine (at_prog HP.out (HPO2.out _)).mono ?_; rintro e w6 ⟨rfl, hf6⟩; have f6 := hf5.trans hf6; obtain ⟨y6, hst6, hyb6, hyf6⟩ := store_all (P := PD) (C j).toList (HL.out w6 f6).2.2.2.2 (by rw [Array.length_toList, hCk, hCk]) (HPA.out.2.2.2.1 j))) | fail)
      go_roundg (j + 1)
      case measure => exact hkg
      case rel => exact ⟨j, rfl, by omega, by omega, HE.out, (HR.out.2.1.trans f6.no).trans hyf6, by simpa using hyb6⟩
    · have HE : Hid (comK p q K = k) := by
        show _ = _
        rw [← HR.out.1]
        cases k with
        | zero => exact HK0.out.2.2.2.1
        | succ j => exact HK0.out.1 j hk
      have HCT2 : Hid (∀ w', Calls Tryz.prog 61 #[.agg (C k), .agg B] w' fun e w'' => e = .returned (.bool true) ∧ Fr No w' w'') := fun w' => by rw [← hk]; exact HCT.out k w'
      clear hk
      go_wp2_with (first | (go_at_call 61; go_loud (refine (at_prog HP.out (HCT2.out _)).mono ?_; rintro e w5 ⟨rfl, hf5⟩; have lc5 := (HL.out w5 hf5).2.2.1; obtain ⟨y5, hst5, hyb5, hyf5⟩ := store_all (P := PD) (C k).toList (HL.out w5 hf5).2.2.2.1 (by rw [Array.length_toList, hCk, hZk]) (HPA.out.2.2.2.1 k))) | fail)
      refine bodyPost_ret_by (results_agg rfl _ (b := m + 1 + 1) (k := 18) (cs := C k) (Tryz.isAgg29 _) (Tryz.sizeOf29 _) rfl (load_block hyb5 (HPA.out.2.2.1 k) (fun j v hv => by simpa using hv))) rfl ?_
      have h1 : Fr No w wr := HN.out.1.ofNew HR.out.2.1 fun j hj => .inr (by rw [hj, Hm.out]; have := HN.out.2.2.2.2.2; omega)
      exact ⟨by rw [HK0.out.2.2.2.2.2 k HE.out], (h1.trans hf5).ofNew hyf5 fun j hj => .inr (by rw [hj, Hm.out]; omega)⟩
end Go.Proofs.YtnadendhboiliaaGreat
namespace Go.Proofs.YtnadendhboiliaaGreat
open Go.ChangeShapes Go.WideShapes Go.ChangeAt Go.RowKit
set_option linter.unusedVariables false

def node0L : Array Value := (cellsOf ⟨false, zeros, 0⟩ none .nil .nil).toArray
theorem zeroNL : ∀ w, (zeroValue 103).run Tryz.prog w = .ok (.agg node0L) w := by
  intro w
  kernel_rfl
theorem fold_nodeL (q : Px) (hx : Bytes q.xs) : Array.foldl (fun (cs : Array Value) (x : Value × Nat) => cs.setIfInBounds x.snd x.fst) node0L (pfx q.b q.xs q.n).toArray.zipIdx 0 18 = (cellsOf q none .nil .nil).toArray := by
  have hl := pfx_length (b := q.b) (n := q.n) hx.1
  have hs : 18 = (pfx q.b q.xs q.n).toArray.zipIdx.size := by rw [Array.size_zipIdx, List.size_toArray, hl]
  rw [hs, ← Array.foldl_toList, Array.toList_zipIdx]
  apply Array.toList_inj.1
  rw [fold_list _ 0 _ (by rw [List.toList_toArray, hl]; decide)]
  simp only [hl]
  rfl
/-- What provide leaves: the place ⟨sb, so⟩ of the tree u is written, p's node is gp. -/
structure ProvL (w : World) (a sb so : Nat) (u : Tr) (p : Px) (gv : Option (Nat × Value)) (gp g1 g2 : Nat) (w' : World) : Prop where
  n1 : w.heap.size ≤ g1
  n2 : w.heap.size ≤ g2
  n3 : g1 ≠ g2
  fr : Fr (fun k => k = sb) w w'
  slot : ∀ v cs T, w.heap[sb]? = some (.cells cs T (0, 0)) → w'.heap[sb]? = some (.cells (cs.setIfInBounds so (rt (top p v g1 g2 u))) T (0, 0))
  here : w.heap.size ≤ gp ∨ gp ∈ blk u
  cell : ∃ C : Array Value, w'.heap[gp]? = some (.cells C 103 (0, 0)) ∧ C.size = 21 ∧ C[18]? = some (vp gv)
  fin : ∀ (v : Nat × Value) (w'' : World), (∀ k, k < w'.heap.size → k ≠ gp → k ≠ sb → k ≠ a → w''.heap[k]? = w'.heap[k]?) → (∀ C : Array Value, w'.heap[gp]? = some (.cells C 103 (0, 0)) → w''.heap[gp]? = some (.cells (C.setIfInBounds 18 (vp (some v))) 103 (0, 0))) → VAt 50 w'' (some v) → In 103 50 w'' (top p v g1 g2 u)

set_option maxHeartbeats 8000000 in
set_option maxRecDepth 100000 in
theorem provideL (p : Px) (hp : okP p) (a ao : Nat) (t t4 t6 : Tr) (w : World) (hT : Tri 103 50 75 w a t4 t6) (hao : (if p.b = true then 1 else 0 : Nat) = ao) (ht : (if p.b = true then t6 else t4) = t) (sb so : Nat) (hsl : slotOf ⟨a, ao, none⟩ t (fp t p) = ⟨sb, so, none⟩) :
    Calls Tryz.prog 64 #[.pointer (some ⟨a, 0, none⟩), .agg (pfx p.b p.xs p.n).toArray] w fun e w' => ∃ gp g1 g2, e = .returned (.pointer (some ⟨gp, 0, none⟩)) ∧ ProvL w a sb so (sub t (fp t p)) p (getT t p) gp g1 g2 w' := by
  have hit : In 103 50 w t ∧ Wf t ∧ w.cell? ⟨a, ao, none⟩ = some (rt t) ∧ (∀ q ∈ t.all, q.b = p.b) ∧ (blk t).Nodup ∧ a ∉ blk t ∧ a < w.heap.size := by
    have hnd := hT.nd
    rw [List.nodup_cons, List.nodup_append] at hnd
    obtain ⟨h1, h2, h3, h4⟩ := hnd
    rw [← hao, ← ht]
    cases hpb : p.b with
    | true => rw [if_pos rfl, if_pos rfl]; exact ⟨hT.i6, hT.w6, cell_of hT.head rfl, hT.f6, h3, fun h => h1 (List.mem_append.2 (.inr h)), some_lt hT.head⟩
    | false => rw [if_neg (by decide), if_neg (by decide)]; exact ⟨hT.i4, hT.w4, cell_of hT.head rfl, hT.f4, h2, fun h => h1 (List.mem_append.2 (.inl h)), some_lt hT.head⟩
  obtain ⟨P, hP0, -, -, hPs, hPA, hP1⟩ := pfx_letter p.b p.xs p.n hp.1
  obtain ⟨B, hB, -, hBs, -⟩ := adr_letter p.b p.xs hp.1
  rw [hB] at hPA
  rw [hP0]
  have HRT : Hid (∀ w', Calls Tryz.prog 63 #[.pointer (some ⟨a, 0, none⟩), .agg B] w' fun e w'' => e = .returned (.pointer (some ⟨a, ao, none⟩)) ∧ Fr No w' w'') := fun w' => by rw [← hB, ← hao]; exact rootL a p.b p.xs hp.1 w'
  have HFD : Hid (∀ (ab ao : Nat) (u : Tr) w', In 103 50 w' u → Wf u → w'.cell? ⟨ab, ao, none⟩ = some (rt u) → Calls Tryz.prog 62 #[.pointer (some ⟨ab, ao, none⟩), .agg P] w' fun e w'' => e = .returned (.pointer (some (slotOf ⟨ab, ao, none⟩ u (fp u p)))) ∧ Fr No w' w'') := fun ab ao u w' h1 h2 h3 => by rw [← hP0]; exact findL p hp.1 u ab ao w' h1 h2 h3
  have hsc : ∀ w', Fr No w w' → w'.cell? ⟨sb, so, none⟩ = some (rt (sub t (fp t p))) ∧ In 103 50 w' (sub t (fp t p)) := fun w' hf => by
    rw [← hsl]
    exact ⟨slot_cell (hit.1.no hf) hit.2.1 (fp_ok t p) (hf.cell hit.2.2.1), sub_in (hit.1.no hf)⟩
  have hsbn : sb ∉ blk (sub t (fp t p)) ∧ sb < w.heap.size ∧ ∃ cs T, w.heap[sb]? = some (.cells cs T (0, 0)) := by
    by_cases he : fp t p = []
    · rw [he, slotOf] at hsl
      cases hsl
      rw [he, sub]
      exact ⟨hit.2.2.2.2.2.1, hit.2.2.2.2.2.2, _, _, hT.head⟩
    · obtain ⟨h1, -⟩ := slot_block (A := ⟨a, ao, none⟩) he (fp_ok t p)
      have h2 := slot_notin (A := ⟨a, ao, none⟩) he (fp_ok t p) hit.2.2.2.2.1
      rw [hsl] at h1 h2
      refine ⟨h2, hit.1.lt sb h1, ?_⟩
      have hall : ∀ {u : Tr} {ds : List Bool} {A : Addr}, ds ≠ [] → okW u ds → In 103 50 w u → ∃ cs T, w.heap[(slotOf A u ds).block]? = some (.cells cs T (0, 0)) := by
        intro u
        induction u with
        | nil => intro ds A h1 h2; cases ds with
          | nil => exact absurd rfl h1
          | cons d ds => exact h2.elim
        | node g q v l r ihl ihr =>
          intro ds A h1 h2 h3
          cases ds with
          | nil => exact absurd rfl h1
          | cons d ds =>
            rw [slotOf]
            rw [okW] at h2
            cases d with
            | true =>
              rw [if_pos rfl] at h2 ⊢
              by_cases hd : ds = []
              · subst hd; rw [slotOf]; exact ⟨_, _, h3.1⟩
              · exact ihr hd h2 h3.2.2.2
            | false =>
              rw [if_neg (by decide)] at h2 ⊢
              by_cases hd : ds = []
              · subst hd; rw [slotOf]; exact ⟨_, _, h3.1⟩
              · exact ihl hd h2 h3.2.2.1
      have := hall (A := ⟨a, ao, none⟩) he (fp_ok t p) hit.1
      rw [hsl] at this
      exact this
  have hsubw : ∀ {u : Tr} (ds : List Bool), Wf u → Wf (sub u ds) ∧ ∀ x ∈ (sub u ds).all, x ∈ u.all := by
    intro u
    induction u with
    | nil => intro ds h; cases ds <;> exact ⟨h, fun x hx => hx⟩
    | node g q v l r ihl ihr =>
      intro ds h
      cases ds with
      | nil => exact ⟨h, fun x hx => hx⟩
      | cons d ds =>
        rw [sub]
        split
        · obtain ⟨k1, k2⟩ := ihr ds h.2.2.2.2
          exact ⟨k1, fun x hx => List.mem_cons_of_mem _ (List.mem_append.2 (.inr (k2 x hx)))⟩
        · obtain ⟨k1, k2⟩ := ihl ds h.2.2.2.1
          exact ⟨k1, fun x hx => List.mem_cons_of_mem _ (List.mem_append.2 (.inl (k2 x hx)))⟩
  have hstop : ∀ (u : Tr) g q v l r, sub u (fp u p) = .node g q v l r → q ≠ p → cov q p ≠ true := by
    intro u
    induction u with
    | nil => intro g q v l r h; rw [fp, sub] at h; cases h
    | node g0 q0 v0 l0 r0 ihl ihr =>
      intro g q v l r h hne
      rw [fp] at h
      split at h
      · split at h
        · rw [sub, if_pos rfl] at h; exact ihr g q v l r h hne
        · rw [sub, if_neg (by decide)] at h; exact ihl g q v l r h hne
      · rename_i hno
        rw [sub] at h
        cases h
        exact fun hc => hno ⟨hne, hc⟩
  have hwu := (hsubw (fp t p) hit.2.1).1
  have hbu : ∀ x ∈ (sub t (fp t p)).all, x.b = p.b := fun x hx => hit.2.2.2.1 x ((hsubw (fp t p) hit.2.1).2 x hx)
  have hgt : getT t p = getN p (sub t (fp t p)) := rfl
  have hsu := hstop t
  have hau : a ∉ blk (sub t (fp t p)) ∧ a < w.heap.size := ⟨fun h => hit.2.2.2.2.2.1 (sub_blk h), hit.2.2.2.2.2.2⟩
  have hbn : (blk (sub t (fp t p))).Nodup := sub_nodup hit.2.2.2.2.1
  generalize hu : sub t (fp t p) = u at *
  have HF0 : Hid (∀ w', In 103 50 w' t → w'.cell? ⟨a, ao, none⟩ = some (rt t) → Calls Tryz.prog 62 #[.pointer (some ⟨a, ao, none⟩), .agg P] w' fun e w'' => e = .returned (.pointer (some ⟨sb, so, none⟩)) ∧ Fr No w' w'') := fun w' h1 h2 => by
    have h := HFD.out a ao t w' h1 hit.2.1 h2
    rw [hsl] at h
    exact h
  rw [hgt]
  obtain ⟨Z, hZ⟩ : ∃ Z, node0L = Z := ⟨_, rfl⟩
  have vN := zeroNL
  rw [hZ] at vN
  have hz21 : Z.size = 21 := by rw [← hZ]; rfl
  have HFN : Hid (∀ q : Px, Bytes q.xs → Array.foldl (fun (cs : Array Value) (x : Value × Nat) => cs.setIfInBounds x.snd x.fst) Z (pfx q.b q.xs q.n).toArray.zipIdx 0 18 = (cellsOf q none .nil .nil).toArray) := fun q hq => by rw [← hZ]; exact fold_nodeL q hq
  have hb0 := heap_alloc_new w (.cells P 29)
  have hF0 := Fr.alloc No w (.cells P 29)
  have HB := Lib.hid (And.intro hb0 (And.intro hF0 (adr_part hBs hPA)))
  have HIT := Lib.hid hit
  have HSC := Lib.hid hsc
  have HSB := Lib.hid hsbn
  have HAU := Lib.hid hau
  have HU := Lib.hid (And.intro hwu (And.intro hbu (And.intro hsu hbn)))
  have HP0 := Lib.hid (And.intro hP0 (And.intro hp hP1))
  have q31 := Tryz.eqGuardType29
  clear hit hsc hsbn hwu hbu hsu hbn hau hP0 hB hPA hP1 hp hsubw hstop hgt hu hsl hb0 hF0 hT hao ht hZ
  go_enter Tryz.func64, Tryz.ntmps64
  have t3 := Tryz.underlying3
  have u3 := Tryz.runUnderlying3
  have g3 := Tryz.isAgg3
  have z3 := Tryz.sizeOf3
  have t4 := Tryz.underlying4
  have u4 := Tryz.runUnderlying4
  have g4 := Tryz.isAgg4
  have z4 := Tryz.sizeOf4
  have t9 := Tryz.underlying9
  have u9 := Tryz.runUnderlying9
  have g9 := Tryz.isAgg9
  have z9 := Tryz.sizeOf9
  have t25 := Tryz.underlying25
  have u25 := Tryz.runUnderlying25
  have g25 := Tryz.isAgg25
  have z25 := Tryz.sizeOf25
  have t29 := Tryz.underlying29
  have u29 := Tryz.runUnderlying29
  have g29 := Tryz.isAgg29
  have z29 := Tryz.sizeOf29
  have t50 := Tryz.underlying50
  have u50 := Tryz.runUnderlying50
  have g50 := Tryz.isAgg50
  have z50 := Tryz.sizeOf50
  have t73 := Tryz.underlying73
  have u73 := Tryz.runUnderlying73
  have g73 := Tryz.isAgg73
  have z73 := Tryz.sizeOf73
  have t103 := Tryz.underlying103
  have u103 := Tryz.runUnderlying103
  have g103 := Tryz.isAgg103
  have z103 := Tryz.sizeOf103
  have t101 := Tryz.underlying101
  have u101 := Tryz.runUnderlying101
  have g101 := Tryz.isAgg101
  have z101 := Tryz.sizeOf101
  have t97 := Tryz.underlying97
  have u97 := Tryz.runUnderlying97
  have g97 := Tryz.isAgg97
  have z97 := Tryz.sizeOf97
  have t48 := Tryz.underlying48
  have u48 := Tryz.runUnderlying48
  have g48 := Tryz.isAgg48
  have z48 := Tryz.sizeOf48
  have t100 := Tryz.underlying100
  have u100 := Tryz.runUnderlying100
  have g100 := Tryz.isAgg100
  have z100 := Tryz.sizeOf100
  have t75 := Tryz.underlying75
  have u75 := Tryz.runUnderlying75
  have g75 := Tryz.isAgg75
  have z75 := Tryz.sizeOf75
  have c63 := Tryz.call63
  have c62 := Tryz.call62
  have c81 := Tryz.call81
  have c82 := Tryz.call82
  have mixed : Tryz.prog.follows .mixedOrders = true := by kernel_rfl
  obtain ⟨k30, hk30⟩ : ∃ k, k = 17 := ⟨_, rfl⟩
  rw [← hk30] at z25
  have nk30 : ¬ k30 = 0 := by omega
  have HK25 := Lib.hid hk30
  obtain ⟨k40, hk40⟩ : ∃ k, k = 18 := ⟨_, rfl⟩
  rw [← hk40] at z29
  have nk40 : ¬ k40 = 0 := by omega
  have HK29 := Lib.hid hk40
  obtain ⟨k21, hk21⟩ : ∃ k, k = 21 := ⟨_, rfl⟩
  rw [← hk21] at z103
  have nk21 : ¬ k21 = 0 := by omega
  have HK103 := Lib.hid hk21
  have hP : Tryz.prog = PD := rfl
  rw [hP] at t3 u3 g3 z3 t4 u4 g4 z4 t9 u9 g9 z9 t25 u25 g25 z25 t29 u29 g29 z29 t50 u50 g50 z50 t73 u73 g73 z73 t103 u103 g103 z103 t101 u101 g101 z101 t97 u97 g97 z97 t48 u48 g48 z48 t100 u100 g100 z100 t75 u75 g75 z75 c63 c62 c81 c82 mixed q31 vN ⊢
  have HP := Lib.hid hP.symm
  clear hP hk30 hk40 hk21
  have hPk : P.size = k40 := by rw [HK29.out]; exact hPs
  have hBk : B.size = k30 := by rw [HK25.out]; exact hBs
  have hZk : Z.size = k21 := by rw [HK103.out]; exact hz21
  have i1 : k40 ≤ k21 := by rw [HK29.out, HK103.out]; decide
  have i3 : ¬ k21 < k40 := by rw [HK29.out, HK103.out]; decide
  have i2 : ¬ Z = #[] := by intro h; rw [h] at hz21; cases hz21
  clear hPs hBs hz21
  have HL : Hid (∀ w', Fr No (w.alloc (.cells P 29)) w' → Fr No (w.alloc (.cells P 29)) w' ∧ Sem.run PD (loadCellsFrom ⟨w.heap.size, 0, none⟩ 0 k40 #[]) w' = .ok P w' ∧ Sem.run PD (loadCellsFrom ⟨w.heap.size, 0, none⟩ 0 k30 #[]) w' = .ok B w') := fun w' hf => ⟨hf, load_block (hf.keep HB.out.1) hPk (fun j v hv => by simpa using hv), load_block (hf.keep HB.out.1) hBk HB.out.2.2⟩
  have f1 := HL.out _ (Fr.drew No _)
  have HFD0 : Hid (∀ w', Fr No w w' → Calls Tryz.prog 62 #[.pointer (some ⟨a, ao, none⟩), .agg P] w' fun e w'' => e = .returned (.pointer (some ⟨sb, so, none⟩)) ∧ Fr No w' w'') := fun w' hf => HF0.out w' (HIT.out.1.no hf) (hf.cell HIT.out.2.2.1)
  go_upto_region 1 with fail
  go_region_held3 (fun w' => Fr No (w.alloc (.cells P 29)) w' ∧ Sem.run PD (loadCellsFrom ⟨w.heap.size, 0, none⟩ 0 k40 #[]) w' = .ok P w' ∧ Sem.run PD (loadCellsFrom ⟨w.heap.size, 0, none⟩ 0 k30 #[]) w' = .ok B w') (first | assumption | exact HL.out _ K3 | exact HL.out _ K4) (first | (go_at_call 63; go_loud (refine (at_prog HP.out (HRT.out _)).mono ?_; rintro e w3 ⟨rfl, hf3⟩; have K3 : Fr No (w.alloc (.cells P 29)) w3 := Fr.trans (And.left (by assumption)) hf3)) | (go_at_call 62; go_loud (refine (at_prog HP.out (HFD0.out _ (HB.out.2.1.trans (And.left (by assumption))))).mono ?_; rintro e w4 ⟨rfl, hf4⟩; have K4 : Fr No (w.alloc (.cells P 29)) w4 := Fr.trans (And.left (by assumption)) hf4)))
  have W4 : Fr No w w4 := HB.out.2.1.trans K4
  have cs4 := (HSC.out w4 W4).1
  have HW4 := Lib.hid (And.intro W4 K4)
  clear hf3 K3 hf4 f1 W4 K4
  cases u with
  | nil =>
    rw [show rt Tr.nil = .pointer none from rfl] at cs4
    have lP := fun m => (HL.out (w4.drewN m) (HW4.out.2.trans (Fr.drewN _ _ _))).2.1
    go_wp2_with fail
    go_quiet (fail)
    rename Nat => nq
    obtain ⟨w5, hw5⟩ : ∃ w5, w4.drewN nq = w5 := ⟨_, rfl⟩
    rw [hw5]
    have h5 : Fr No w4 w5 := by rw [← hw5]; exact Fr.drewN _ _ _
    have W5 : Fr No w w5 := HW4.out.1.trans h5
    have lP5 := (HL.out w5 (HW4.out.2.trans h5)).2.1
    obtain ⟨CN, hCN⟩ : ∃ CN, (cellsOf p none .nil .nil).toArray = CN := ⟨_, rfl⟩
    have hfN : Array.foldl (fun (cs : Array Value) (x : Value × Nat) => cs.setIfInBounds x.snd x.fst) Z P.zipIdx 0 k40 = CN := by rw [HK29.out, ← HP0.out.1, ← hCN]; exact HFN.out p HP0.out.2.1.1
    obtain ⟨cs, T, hcs⟩ := HSB.out.2.2
    have W6 : Fr No w (w5.alloc (.cells CN 103)) := W5.trans (Fr.alloc _ _ _)
    have c5 : w5.cell? ⟨sb, so, none⟩ = some (.pointer none) := (HSC.out w5 W5).1
    have c6 : (w5.alloc (.cells CN 103)).cell? ⟨sb, so, none⟩ = some (.pointer none) := (HSC.out _ W6).1
    have z6 : (w5.alloc (.cells CN 103)).frozen? ⟨sb, so, none⟩ = false := frozen_of_row _ _ _ _ _ (W6.keep hcs)
    have HCN := Lib.hid (And.intro hCN (And.intro W5 W6))
    have hsb5 := HSB.out.2.1
    have hs5 := W5.size
    clear lP h5 W5 W6 hCN hw5 cs4
    go_wp2_with fail
    go_ret
    refine ⟨w5.heap.size, w5.heap.size, w5.heap.size + 1, rfl, hs5, by omega, by omega, HCN.out.2.2.no.trans (Fr.setCell _ _ _ _ rfl), fun v cs' T' h => setCell_same (HCN.out.2.2.keep h) _, .inl hs5, ⟨CN, (setCell_other _ (by omega)).trans (heap_alloc_new w5 _), ?_, ?_⟩, fun v w'' hk hC hv => ?_⟩
    · rw [← HCN.out.1, List.size_toArray]; exact cellsOf_length HP0.out.2.1.1 _ _ _
    · rw [← HCN.out.1]; exact (cellsOf_at HP0.out.2.1.1 none .nil .nil).1
    · have h1 := hC CN ((setCell_other _ (by omega)).trans (heap_alloc_new w5 _))
      rw [← HCN.out.1, cells_v HP0.out.2.1.1] at h1
      exact ⟨h1, hv, trivial, trivial⟩
  | node g q v l r =>
    have hwq : okP q := HU.out.1.1
    obtain ⟨K, hK, -, -, hKs, hKA, -⟩ := pfx_letter q.b q.xs q.n hwq.1
    obtain ⟨A, hA, -, hAs, -⟩ := adr_letter q.b q.xs hwq.1
    rw [hA] at hKA
    have hKk : K.size = k40 := by rw [HK29.out]; exact hKs
    have hAk : A.size = k30 := by rw [HK25.out]; exact hAs
    rw [show rt (Tr.node g q v l r) = .pointer (some ⟨g, 0, none⟩) from rfl] at cs4
    have HI4 : Hid (In 103 50 w4 (.node g q v l r)) := (HSC.out w4 HW4.out.1).2
    have HLG : Hid (∀ w', w'.heap[g]? = w4.heap[g]? → Sem.run PD (loadCellsFrom ⟨g, 0, none⟩ 0 k40 #[]) w' = .ok K w' ∧ Sem.run PD (loadCellsFrom ⟨g, 0, none⟩ 0 k30 #[]) w' = .ok A w') := fun w' h => ⟨load_block (h.trans HI4.out.1) hKk (fun j u hu => cellsOf_pfx j u (by rw [hK]; exact hu)), load_block (h.trans HI4.out.1) hAk (fun j u hu => cellsOf_pfx j u (by rw [hK]; exact hKA j u hu))⟩
    have hEQ : ∀ w', Sem.run PD (Op.equalIn 10000 29 (.agg K) (.agg P)) w' = .ok (decide (q = p)) w' := fun w' => by
      rw [HP.out, ← hK, ← HP0.out.1, pfx_eq q.n p.n hwq.1 HP0.out.2.1.1 w']
      congr 1
      exact decide_eq_decide.2 Px.eq_iff
    have lP := fun m => (HL.out (w4.drewN m) (HW4.out.2.trans (Fr.drewN _ _ _))).2.1
    have lq := fun m => (HLG.out (w4.drewN m) rfl).1
    have HKA := Lib.hid (And.intro hK (And.intro hA hwq))
    clear hK hA hKs hAs hKA hwq
    by_cases hqp : q = p
    · rw [decide_eq_true hqp] at hEQ
      have HQP := Lib.hid hqp
      clear hqp
      go_wp2_with fail
      go_quiet (fail)
      rename Nat => nq
      obtain ⟨w5, hw5⟩ : ∃ w5, w4.drewN nq = w5 := ⟨_, rfl⟩
      rw [hw5]
      have h5 : Fr No w4 w5 := by rw [← hw5]; exact Fr.drewN _ _ _
      have W5 : Fr No w w5 := HW4.out.1.trans h5
      have c5 : w5.cell? ⟨sb, so, none⟩ = some (.pointer (some ⟨g, 0, none⟩)) := (HSC.out w5 W5).1
      have HW5 := Lib.hid (And.intro W5 h5)
      clear lP lq hw5 cs4 h5 W5
      go_wp2_with fail
      go_ret
      have hiw := (HSC.out w5 HW5.out.1).2
      refine ⟨g, w5.heap.size, w5.heap.size + 1, rfl, HW5.out.1.size, by have := HW5.out.1.size; omega, by omega, HW5.out.1.no, fun v' cs' T' h => ?_, .inr List.mem_cons_self, ⟨_, hiw.1, ?_, ?_⟩, fun v' w'' hk hC hv => ?_⟩
      · have e : rt (top p v' w5.heap.size (w5.heap.size + 1) (.node g q v l r)) = rt (.node g q v l r) := by rw [top, if_pos HQP.out]; rfl
        rw [e, set_self (cell_heap h (HSC.out w (Fr.refl _ _)).1)]
        exact HW5.out.1.keep h
      · rw [List.size_toArray]; exact cellsOf_length HKA.out.2.2.1 _ _ _
      · rw [show getN p (.node g q v l r) = v from if_pos HQP.out]; exact (cellsOf_at HKA.out.2.2.1 v l r).1
      · rw [top, if_pos HQP.out]
        have hnd := HU.out.2.2.2
        obtain ⟨n1, n2, n3, n4, n5, n6, n7⟩ := nodup_parts hnd
        have h1 := hC _ hiw.1
        rw [cells_v HKA.out.2.2.1] at h1
        refine ⟨h1, hv, hiw.2.2.1.keep fun k hm => hk k (hiw.2.2.1.lt k hm) (fun hc => n2 (hc ▸ hm)) (fun hc => HSB.out.1 (hc ▸ blk_node.2 (.inr (.inr (.inl hm))))) (fun hc => HAU.out.1 (hc ▸ blk_node.2 (.inr (.inr (.inl hm))))), hiw.2.2.2.keep fun k hm => hk k (hiw.2.2.2.lt k hm) (fun hc => n3 (hc ▸ hm)) (fun hc => HSB.out.1 (hc ▸ blk_node.2 (.inr (.inr (.inr hm))))) (fun hc => HAU.out.1 (hc ▸ blk_node.2 (.inr (.inr (.inr hm)))))⟩
    · rw [decide_eq_false hqp] at hEQ
      have hcv : cov q p ≠ true := HU.out.2.2.1 g q v l r rfl hqp
      have hqb : q.b = p.b := HU.out.2.1 q List.mem_cons_self
      have hjw := fun jb => joint_wf (g1 := jb) HP0.out.2.1 HU.out.1 hqb hqp hcv
      have hcok : okP (com q p) := (hjw 0).2.2
      obtain ⟨CC, hCC, -, -, hCCs, -, -⟩ := pfx_letter (com q p).b (com q p).xs (com q p).n hcok.1
      have hCCk : CC.size = k40 := by rw [HK29.out]; exact hCCs
      have HCM : Hid (∀ w', Calls Tryz.prog 82 #[.agg K, .agg P] w' fun e w'' => e = .returned (.agg CC) ∧ Fr No w' w'') := fun w' => by rw [← HKA.out.1, ← HP0.out.1, ← hCC]; exact com_any q p HKA.out.2.2 HP0.out.2.1 hqb w'
      obtain ⟨J0, hJ0⟩ : ∃ J0, (cellsOf (com q p) none .nil .nil).toArray = J0 := ⟨_, rfl⟩
      have hfJ : Array.foldl (fun (cs : Array Value) (x : Value × Nat) => cs.setIfInBounds x.snd x.fst) Z CC.zipIdx 0 k40 = J0 := by rw [HK29.out, ← hCC, ← hJ0]; exact HFN.out (com q p) hcok.1
      have hJs : J0.size = k21 := by rw [HK103.out, ← hJ0, List.size_toArray]; exact cellsOf_length hcok.1 _ _ _
      have HLL : Hid (∀ w', Fr No w4 w' → Fr No w4 w' ∧ Sem.run PD (loadCellsFrom ⟨g, 0, none⟩ 0 k40 #[]) w' = .ok K w' ∧ Sem.run PD (loadCellsFrom ⟨w.heap.size, 0, none⟩ 0 k40 #[]) w' = .ok P w') := fun w' hf => ⟨hf, (HLG.out w' (hf.block g (some_lt HI4.out.1) (fun h => h))).1, (HL.out w' (HW4.out.2.trans hf)).2.1⟩
      have HQP := Lib.hid (And.intro hqp (And.intro hcv (And.intro hqb (And.intro hjw (And.intro hcok hJ0)))))
      have HI5 : Hid (∀ m, Fr No w4 (w4.drewN m)) := fun m => Fr.drewN _ _ _
      clear hqp hcv hqb hjw hcok hCC hCCs hJ0
      go_wp2_with fail
      go_quiet (fail)
      rename Nat => nq
      obtain ⟨w5, hw5⟩ : ∃ w5, w4.drewN nq = w5 := ⟨_, rfl⟩
      rw [hw5]
      have h5 : Fr No w4 w5 := by rw [← hw5]; exact Fr.drewN _ _ _
      have f5 := HLL.out _ (h5.trans (Fr.drew _ _))
      clear lP lq hw5 cs4
      go_wp2_with fail
      go_region_held3 (fun w' => Fr No w4 w' ∧ Sem.run PD (loadCellsFrom ⟨g, 0, none⟩ 0 k40 #[]) w' = .ok K w' ∧ Sem.run PD (loadCellsFrom ⟨w.heap.size, 0, none⟩ 0 k40 #[]) w' = .ok P w') (first | assumption | exact HLL.out _ K6 | exact HLL.out _ (K6.trans (Fr.alloc No _ _))) (first | (go_at_call 82; go_loud (refine (at_prog HP.out (HCM.out _)).mono ?_; rintro e w6 ⟨rfl, hf6⟩; have K6 : Fr No w4 w6 := Fr.trans (And.left (by assumption)) hf6)))
      -- joint
      obtain ⟨w7, hw7⟩ : ∃ w7, w6.alloc (.cells J0 103) = w7 := ⟨_, rfl⟩
      obtain ⟨jb, hjb⟩ : ∃ jb, w6.heap.size = jb := ⟨_, rfl⟩
      rw [hw7, hjb]
      have hJb : w7.heap[jb]? = some (.cells J0 103 (0, 0)) := by rw [← hw7, ← hjb]; exact heap_alloc_new w6 _
      have K7 : Fr No w4 w7 := by rw [← hw7]; exact K6.trans (Fr.alloc _ _ _)
      have hjlt : jb < w7.heap.size := some_lt hJb
      have hW6 : w4.heap.size ≤ jb := by rw [← hjb]; exact K6.size
      have hPB : w.heap.size < w4.heap.size := by
        have h1 := HW4.out.2.size
        have h2 := some_lt HB.out.1
        omega
      have HJB := Lib.hid (And.intro hJb (And.intro K7 (And.intro hW6 hPB)))
      have la7 := (HLG.out w7 (K7.block g (some_lt HI4.out.1) (fun h => h))).2
      have hpbs : w.heap.size < w4.heap.size := hPB
      have hjsb : sb < jb := by have := HSB.out.2.1; omega
      have hgjb : g < jb := by have := some_lt HI4.out.1; omega
      clear hJb K7 hfJ K6 hf6 f5 hEQ h5 hjb hw7
      obtain ⟨CN, hCN⟩ : ∃ CN, (cellsOf p none .nil .nil).toArray = CN := ⟨_, rfl⟩
      have hfN : Array.foldl (fun (cs : Array Value) (x : Value × Nat) => cs.setIfInBounds x.snd x.fst) Z P.zipIdx 0 k40 = CN := by rw [HK29.out, ← HP0.out.1, ← hCN]; exact HFN.out p HP0.out.2.1.1
      have hCNs : CN.size = k21 := by rw [HK103.out, ← hCN, List.size_toArray]; exact cellsOf_length HP0.out.2.1.1 _ _ _
      have HCN := Lib.hid hCN
      obtain ⟨cs, T, hcs⟩ := HSB.out.2.2
      have HCS := Lib.hid hcs
      clear hCN hcs
      cases hd : sideB (com q p) q.b q.xs
      · have HSD : Hid (∀ w', w'.heap[jb]? = some (.cells J0 103 (0, 0)) → Calls Tryz.prog 81 #[.pointer (some ⟨jb, 0, none⟩), .agg A] w' fun e w'' => e = .returned (.pointer (some ⟨jb, 19, none⟩)) ∧ Fr No w' w'') := fun w' h => by
          have h1 := sdL jb (com q p) none .nil .nil q.b q.xs HQP.out.2.2.2.2.1 HKA.out.2.2.1 w' (by rw [HQP.out.2.2.2.2.2]; exact h)
          rw [hd, if_neg (by decide), HKA.out.2.1] at h1
          exact h1
        have HJN : Hid (joint p jb g q v l r = .node jb (com q p) none (.node g q v l r) .nil) := by show _ = _; unfold joint fork; rw [hd, if_neg (by decide)]
        obtain ⟨JC, hJC⟩ : ∃ JC, (cellsOf (com q p) none (.node g q v l r) .nil).toArray = JC := ⟨_, rfl⟩
        have hJset : J0.setIfInBounds 19 (.pointer (some ⟨g, 0, none⟩)) = JC := by rw [← HQP.out.2.2.2.2.2, ← hJC]; exact cells_l HQP.out.2.2.2.2.1.1 none .nil .nil (.node g q v l r)
        have hJp : JC[20]? = some (.pointer none) := by rw [← hJC]; exact (cellsOf_at HQP.out.2.2.2.2.1.1 none _ _).2.2
        have hJv : JC[18]? = some (.pointer none) := by rw [← hJC]; exact (cellsOf_at HQP.out.2.2.2.2.1.1 none _ _).1
        have hJo : J0[19]? = some (.pointer none) := by rw [← HQP.out.2.2.2.2.2]; exact (cellsOf_at HQP.out.2.2.2.2.1.1 none .nil .nil).2.1
        have HJ := Lib.hid (And.intro hJC (And.intro hJp (And.intro hJv hJo)))
        have HDD := Lib.hid hd
        clear hJC hJp hJv hJo hd
        by_cases hcp : com q p = p
        · have HFJ : Hid (∀ w', In 103 50 w' (joint p jb g q v l r) → w'.cell? ⟨sb, so, none⟩ = some (.pointer (some ⟨jb, 0, none⟩)) → Calls Tryz.prog 62 #[.pointer (some ⟨sb, so, none⟩), .agg P] w' fun e w'' => e = .returned (.pointer (some ⟨sb, so, none⟩)) ∧ Fr No w' w'') := fun w' h1 h2 => by
            have h := HFD.out sb so _ w' h1 (HQP.out.2.2.2.1 jb).1 (by rw [HJN.out]; exact h2)
            rw [joint_here hcp, slotOf] at h
            exact h
          have HCP := Lib.hid hcp
          clear hcp
          go_wp2_with (first | (go_at_call 81; go_loud (refine (at_prog HP.out (HSD.out _ HJB.out.1)).mono ?_; rintro e w8 ⟨rfl, hf8⟩; have hb8 := hf8.keep HJB.out.1; have c8 := cell_of hb8 HJ.out.2.2.2; have z8 := frozen_of_row w8 jb 19 _ _ hb8; obtain ⟨w9, hw9⟩ : ∃ w9, w8.setCell ⟨jb, 19, none⟩ (.pointer (some ⟨g, 0, none⟩)) = w9 := ⟨_, rfl⟩; have F9 : Fr (fun k => k = jb) w4 w9 := (by rw [← hw9]; exact ((HJB.out.2.1.trans hf8).no).trans (Fr.setCell _ _ _ _ rfl)); have W9 : Fr No w w9 := HW4.out.1.ofNew F9 (fun k hk => .inr (by rw [hk]; have := HJB.out.2.2; omega)); have b9 : w9.heap[jb]? = some (.cells JC 103 (0, 0)) := (by rw [← hw9, setCell_same hb8, hJset]); have c9 : w9.cell? ⟨sb, so, none⟩ = some (.pointer (some ⟨g, 0, none⟩)) := (HSC.out w9 W9).1; have z9 := frozen_of_row w9 sb so _ _ (W9.keep HCS.out); obtain ⟨w10, hw10⟩ : ∃ w10, w9.setCell ⟨sb, so, none⟩ (.pointer (some ⟨jb, 0, none⟩)) = w10 := ⟨_, rfl⟩; have b10 : w10.heap[jb]? = some (.cells JC 103 (0, 0)) := (by rw [← hw10, setCell_other _ (by omega)]; exact b9); have F10 : Fr (fun k => k = jb ∨ k = sb) w4 w10 := (by rw [← hw10]; exact (F9.mono (fun k _ h => .inl h)).trans (Fr.setCell _ _ _ _ (.inr rfl))); have cc10 : w10.cell? ⟨sb, so, none⟩ = some (.pointer (some ⟨jb, 0, none⟩)) := (by rw [← hw10]; exact cell_of (setCell_same (W9.keep HCS.out) _) (by have := (Array.getElem?_eq_some_iff.1 (cell_heap (W9.keep HCS.out) c9)).1; rw [Array.getElem?_setIfInBounds_self_of_lt this])); have iu10 : In 103 50 w10 (.node g q v l r) := HI4.out.fr F10 (fun k hk hc => by rcases hc with hc | hc; (have := HI4.out.lt k hk; have := HJB.out.2.2; omega); exact HSB.out.1 (hc ▸ hk)); have ij10 : In 103 50 w10 (joint p jb g q v l r) := (by rw [HJN.out]; have hj := b10; rw [← HJ.out.1] at hj; have hin := iu10; exact ⟨hj, trivial, hin, trivial⟩); have lP10 : Sem.run PD (loadCellsFrom ⟨w.heap.size, 0, none⟩ 0 k40 #[]) w10 = .ok P w10 := load_block ((F10.block _ hpbs (fun hc => by rcases hc with hc | hc; omega; (have := HSB.out.2.1; omega))).trans (HW4.out.2.keep HB.out.1)) hPk (fun j u hu => by simpa using hu))) | (go_at_call 62; go_loud (refine (at_prog HP.out (HFJ.out _ ij10 cc10)).mono ?_; rintro e w11 ⟨rfl, hf11⟩; have cc11 := hf11.cell cc10)) | fail)
          go_ret
          have b11 := hf11.keep b10
          have iu11 := iu10.no hf11
          have F11 : Fr (fun k => k = sb) w w11 := by
            have h0 : Fr (fun k => k = sb) w w9 := W9.no
            have h1 : Fr (fun k => k = sb) w w10 := by rw [← hw10]; exact h0.trans (Fr.setCell _ _ _ _ rfl)
            exact h1.trans hf11.no
          have hwj : w.heap.size ≤ jb := by have := HJB.out.2.2; omega
          refine ⟨jb, jb, jb + 1, rfl, hwj, by omega, by omega, F11, fun v' cs' T' h => ?_, .inl hwj, ⟨JC, b11, ?_, ?_⟩, fun v' w'' hk hC hv => ?_⟩
          · have e : rt (top p v' jb (jb + 1) (.node g q v l r)) = .pointer (some ⟨jb, 0, none⟩) := by
              rw [top, if_neg HQP.out.1, if_pos HCP.out]; unfold fork; split <;> rfl
            rw [e]
            refine hf11.keep ?_
            rw [← hw10]
            exact setCell_same (W9.keep h) _
          · rw [← HJ.out.1, List.size_toArray]; exact cellsOf_length HQP.out.2.2.2.2.1.1 _ _ _
          · rw [show getN p (.node g q v l r) = none from if_neg HQP.out.1]; exact HJ.out.2.2.1
          · have h1 := hC _ b11
            rw [← HJ.out.1, cells_v HQP.out.2.2.2.2.1.1] at h1
            have hin : In 103 50 w'' (.node g q v l r) := iu11.keep fun k hm => hk k (iu11.lt k hm) (fun hc => by have := HI4.out.lt k hm; have := HJB.out.2.2; omega) (fun hc => HSB.out.1 (hc ▸ hm)) (fun hc => HAU.out.1 (hc ▸ hm))
            have hdd := HDD.out
            rw [HCP.out] at h1 hdd
            rw [top, if_neg HQP.out.1, if_pos HCP.out]
            unfold fork
            rw [hdd, if_neg (by decide)]
            have hj := h1
            exact ⟨hj, hv, hin, trivial⟩
        · have hjs := joint_side (g1 := jb) (g := g) (u := v) (l := l) (r := r) HP0.out.2.1 HKA.out.2.2 HQP.out.2.2.1 HQP.out.2.1 hcp
          have HFJ : Hid (∀ w', In 103 50 w' (joint p jb g q v l r) → w'.cell? ⟨sb, so, none⟩ = some (.pointer (some ⟨jb, 0, none⟩)) → Calls Tryz.prog 62 #[.pointer (some ⟨sb, so, none⟩), .agg P] w' fun e w'' => e = .returned (.pointer (some ⟨jb, 20, none⟩)) ∧ Fr No w' w'') := fun w' h1 h2 => by
            have h := HFD.out sb so _ w' h1 (HQP.out.2.2.2.1 jb).1 (by rw [HJN.out]; exact h2)
            rw [hjs.1, HJN.out, HDD.out, slotOf, if_pos (by decide), slotOf] at h
            exact h
          have HCP := Lib.hid hcp
          clear hcp hjs
          go_wp2_with (first | (go_at_call 81; go_loud (refine (at_prog HP.out (HSD.out _ HJB.out.1)).mono ?_; rintro e w8 ⟨rfl, hf8⟩; have hb8 := hf8.keep HJB.out.1; have c8 := cell_of hb8 HJ.out.2.2.2; have z8 := frozen_of_row w8 jb 19 _ _ hb8; obtain ⟨w9, hw9⟩ : ∃ w9, w8.setCell ⟨jb, 19, none⟩ (.pointer (some ⟨g, 0, none⟩)) = w9 := ⟨_, rfl⟩; have F9 : Fr (fun k => k = jb) w4 w9 := (by rw [← hw9]; exact ((HJB.out.2.1.trans hf8).no).trans (Fr.setCell _ _ _ _ rfl)); have W9 : Fr No w w9 := HW4.out.1.ofNew F9 (fun k hk => .inr (by rw [hk]; have := HJB.out.2.2; omega)); have b9 : w9.heap[jb]? = some (.cells JC 103 (0, 0)) := (by rw [← hw9, setCell_same hb8, hJset]); have c9 : w9.cell? ⟨sb, so, none⟩ = some (.pointer (some ⟨g, 0, none⟩)) := (HSC.out w9 W9).1; have z9 := frozen_of_row w9 sb so _ _ (W9.keep HCS.out); obtain ⟨w10, hw10⟩ : ∃ w10, w9.setCell ⟨sb, so, none⟩ (.pointer (some ⟨jb, 0, none⟩)) = w10 := ⟨_, rfl⟩; have b10 : w10.heap[jb]? = some (.cells JC 103 (0, 0)) := (by rw [← hw10, setCell_other _ (by omega)]; exact b9); have F10 : Fr (fun k => k = jb ∨ k = sb) w4 w10 := (by rw [← hw10]; exact (F9.mono (fun k _ h => .inl h)).trans (Fr.setCell _ _ _ _ (.inr rfl))); have cc10 : w10.cell? ⟨sb, so, none⟩ = some (.pointer (some ⟨jb, 0, none⟩)) := (by rw [← hw10]; exact cell_of (setCell_same (W9.keep HCS.out) _) (by have := (Array.getElem?_eq_some_iff.1 (cell_heap (W9.keep HCS.out) c9)).1; rw [Array.getElem?_setIfInBounds_self_of_lt this])); have iu10 : In 103 50 w10 (.node g q v l r) := HI4.out.fr F10 (fun k hk hc => by rcases hc with hc | hc; (have := HI4.out.lt k hk; have := HJB.out.2.2; omega); exact HSB.out.1 (hc ▸ hk)); have ij10 : In 103 50 w10 (joint p jb g q v l r) := (by rw [HJN.out]; have hj := b10; rw [← HJ.out.1] at hj; have hin := iu10; exact ⟨hj, trivial, hin, trivial⟩); have lP10 : Sem.run PD (loadCellsFrom ⟨w.heap.size, 0, none⟩ 0 k40 #[]) w10 = .ok P w10 := load_block ((F10.block _ hpbs (fun hc => by rcases hc with hc | hc; omega; (have := HSB.out.2.1; omega))).trans (HW4.out.2.keep HB.out.1)) hPk (fun j u hu => by simpa using hu))) | (go_at_call 62; go_loud (refine (at_prog HP.out (HFJ.out _ ij10 cc10)).mono ?_; rintro e w11 ⟨rfl, hf11⟩; have b11 := hf11.keep b10; have jj11 := cell_of b11 HJ.out.2.1; have lP11 : Sem.run PD (loadCellsFrom ⟨w.heap.size, 0, none⟩ 0 k40 #[]) w11 = .ok P w11 := load_block (((F10.trans hf11.no).block _ hpbs (fun hc => by rcases hc with hc | hc; omega; (have := HSB.out.2.1; omega))).trans (HW4.out.2.keep HB.out.1)) hPk (fun j u hu => by simpa using hu); have b12 := (Fr.alloc No w11 (.cells CN 103)).keep b11; have jj12 := cell_of b12 HJ.out.2.1; have z12 := frozen_of_row (w11.alloc (.cells CN 103)) jb 20 _ _ b12)) | fail)
          go_ret
          have iu11 := iu10.no hf11
          have F11 : Fr (fun k => k = sb) w w11 := by
            have h0 : Fr (fun k => k = sb) w w9 := W9.no
            have h1 : Fr (fun k => k = sb) w w10 := by rw [← hw10]; exact h0.trans (Fr.setCell _ _ _ _ rfl)
            exact h1.trans hf11.no
          have hwj : w.heap.size ≤ jb := by have := HJB.out.2.2; omega
          obtain ⟨nb, hnb⟩ : ∃ nb, w11.heap.size = nb := ⟨_, rfl⟩
          have hjn : jb < nb := by rw [← hnb]; exact some_lt b11
          rw [hnb]
          obtain ⟨w13, hw13⟩ : ∃ w13, (w11.alloc (.cells CN 103)).setCell ⟨jb, 20, none⟩ (.pointer (some ⟨nb, 0, none⟩)) = w13 := ⟨_, rfl⟩
          rw [hw13]
          have F13 : Fr (fun k => k = jb) w11 w13 := by rw [← hw13]; exact (Fr.alloc _ _ _).trans (Fr.setCell _ _ _ _ rfl)
          have N13 : w13.heap[nb]? = some (.cells CN 103 (0, 0)) := by rw [← hw13, setCell_other _ (by omega), ← hnb]; exact heap_alloc_new w11 _
          have J13 : w13.heap[jb]? = some (.cells (JC.setIfInBounds 20 (.pointer (some ⟨nb, 0, none⟩))) 103 (0, 0)) := by rw [← hw13]; exact setCell_same b12 _
          have iu13 : In 103 50 w13 (.node g q v l r) := iu11.fr F13 fun k hm hc => by have := HI4.out.lt k hm; have := HJB.out.2.2; omega
          refine ⟨nb, jb, nb, rfl, hwj, by omega, by omega, F11.ofNew F13 (fun k hk => .inr (by omega)), fun v' cs' T' h => ?_, .inl (by omega), ⟨CN, N13, ?_, ?_⟩, fun v' w'' hk hC hv => ?_⟩
          · have e : rt (top p v' jb nb (.node g q v l r)) = .pointer (some ⟨jb, 0, none⟩) := by
              rw [top, if_neg HQP.out.1, if_neg HCP.out]; unfold fork; split <;> rfl
            rw [e, F13.block sb (by have := some_lt h; have := F11.size; omega) (by omega)]
            refine hf11.keep ?_
            rw [← hw10]
            exact setCell_same (W9.keep h) _
          · rw [← HCN.out, List.size_toArray]; exact cellsOf_length HP0.out.2.1.1 _ _ _
          · rw [show getN p (.node g q v l r) = none from if_neg HQP.out.1, ← HCN.out]; exact (cellsOf_at HP0.out.2.1.1 none .nil .nil).1
          · have h1 := hC _ N13
            rw [← HCN.out, cells_v HP0.out.2.1.1] at h1
            have hin : In 103 50 w'' (.node g q v l r) := iu13.keep fun k hm => hk k (iu13.lt k hm) (fun hc => by have := HI4.out.lt k hm; have := HJB.out.2.2; omega) (fun hc => HSB.out.1 (hc ▸ hm)) (fun hc => HAU.out.1 (hc ▸ hm))
            have hj0 : w''.heap[jb]? = some (.cells (cellsOf (com q p) none (.node g q v l r) (.node nb p none .nil .nil)).toArray 103 (0, 0)) := by
              rw [hk jb (some_lt J13) (by omega) (by omega) (by have := HAU.out.2; omega), J13, ← HJ.out.1]
              exact congrArg (fun c => some (Obj.cells c 103 (0, 0))) (cells_r HQP.out.2.2.2.2.1.1 none _ _ (.node nb p none .nil .nil))
            rw [top, if_neg HQP.out.1, if_neg HCP.out]
            unfold fork
            rw [HDD.out, if_neg (by decide)]
            have hj : w''.heap[jb]? = some (.cells (cellsOf (com q p) none (.node g q v l r) (.node nb p (some v') .nil .nil)).toArray 103 (0, 0)) := hj0
            exact ⟨hj, trivial, hin, ⟨h1, hv, trivial, trivial⟩⟩
      · have HSD : Hid (∀ w', w'.heap[jb]? = some (.cells J0 103 (0, 0)) → Calls Tryz.prog 81 #[.pointer (some ⟨jb, 0, none⟩), .agg A] w' fun e w'' => e = .returned (.pointer (some ⟨jb, 20, none⟩)) ∧ Fr No w' w'') := fun w' h => by
          have h1 := sdL jb (com q p) none .nil .nil q.b q.xs HQP.out.2.2.2.2.1 HKA.out.2.2.1 w' (by rw [HQP.out.2.2.2.2.2]; exact h)
          rw [hd, if_pos rfl, HKA.out.2.1] at h1
          exact h1
        have HJN : Hid (joint p jb g q v l r = .node jb (com q p) none .nil (.node g q v l r)) := by show _ = _; unfold joint fork; rw [hd, if_pos rfl]
        obtain ⟨JC, hJC⟩ : ∃ JC, (cellsOf (com q p) none .nil (.node g q v l r)).toArray = JC := ⟨_, rfl⟩
        have hJset : J0.setIfInBounds 20 (.pointer (some ⟨g, 0, none⟩)) = JC := by rw [← HQP.out.2.2.2.2.2, ← hJC]; exact cells_r HQP.out.2.2.2.2.1.1 none .nil .nil (.node g q v l r)
        have hJp : JC[19]? = some (.pointer none) := by rw [← hJC]; exact (cellsOf_at HQP.out.2.2.2.2.1.1 none _ _).2.1
        have hJv : JC[18]? = some (.pointer none) := by rw [← hJC]; exact (cellsOf_at HQP.out.2.2.2.2.1.1 none _ _).1
        have hJo : J0[20]? = some (.pointer none) := by rw [← HQP.out.2.2.2.2.2]; exact (cellsOf_at HQP.out.2.2.2.2.1.1 none .nil .nil).2.2
        have HJ := Lib.hid (And.intro hJC (And.intro hJp (And.intro hJv hJo)))
        have HDD := Lib.hid hd
        clear hJC hJp hJv hJo hd
        by_cases hcp : com q p = p
        · have HFJ : Hid (∀ w', In 103 50 w' (joint p jb g q v l r) → w'.cell? ⟨sb, so, none⟩ = some (.pointer (some ⟨jb, 0, none⟩)) → Calls Tryz.prog 62 #[.pointer (some ⟨sb, so, none⟩), .agg P] w' fun e w'' => e = .returned (.pointer (some ⟨sb, so, none⟩)) ∧ Fr No w' w'') := fun w' h1 h2 => by
            have h := HFD.out sb so _ w' h1 (HQP.out.2.2.2.1 jb).1 (by rw [HJN.out]; exact h2)
            rw [joint_here hcp, slotOf] at h
            exact h
          have HCP := Lib.hid hcp
          clear hcp
          go_wp2_with (first | (go_at_call 81; go_loud (refine (at_prog HP.out (HSD.out _ HJB.out.1)).mono ?_; rintro e w8 ⟨rfl, hf8⟩; have hb8 := hf8.keep HJB.out.1; have c8 := cell_of hb8 HJ.out.2.2.2; have z8 := frozen_of_row w8 jb 20 _ _ hb8; obtain ⟨w9, hw9⟩ : ∃ w9, w8.setCell ⟨jb, 20, none⟩ (.pointer (some ⟨g, 0, none⟩)) = w9 := ⟨_, rfl⟩; have F9 : Fr (fun k => k = jb) w4 w9 := (by rw [← hw9]; exact ((HJB.out.2.1.trans hf8).no).trans (Fr.setCell _ _ _ _ rfl)); have W9 : Fr No w w9 := HW4.out.1.ofNew F9 (fun k hk => .inr (by rw [hk]; have := HJB.out.2.2; omega)); have b9 : w9.heap[jb]? = some (.cells JC 103 (0, 0)) := (by rw [← hw9, setCell_same hb8, hJset]); have c9 : w9.cell? ⟨sb, so, none⟩ = some (.pointer (some ⟨g, 0, none⟩)) := (HSC.out w9 W9).1; have z9 := frozen_of_row w9 sb so _ _ (W9.keep HCS.out); obtain ⟨w10, hw10⟩ : ∃ w10, w9.setCell ⟨sb, so, none⟩ (.pointer (some ⟨jb, 0, none⟩)) = w10 := ⟨_, rfl⟩; have b10 : w10.heap[jb]? = some (.cells JC 103 (0, 0)) := (by rw [← hw10, setCell_other _ (by omega)]; exact b9); have F10 : Fr (fun k => k = jb ∨ k = sb) w4 w10 := (by rw [← hw10]; exact (F9.mono (fun k _ h => .inl h)).trans (Fr.setCell _ _ _ _ (.inr rfl))); have cc10 : w10.cell? ⟨sb, so, none⟩ = some (.pointer (some ⟨jb, 0, none⟩)) := (by rw [← hw10]; exact cell_of (setCell_same (W9.keep HCS.out) _) (by have := (Array.getElem?_eq_some_iff.1 (cell_heap (W9.keep HCS.out) c9)).1; rw [Array.getElem?_setIfInBounds_self_of_lt this])); have iu10 : In 103 50 w10 (.node g q v l r) := HI4.out.fr F10 (fun k hk hc => by rcases hc with hc | hc; (have := HI4.out.lt k hk; have := HJB.out.2.2; omega); exact HSB.out.1 (hc ▸ hk)); have ij10 : In 103 50 w10 (joint p jb g q v l r) := (by rw [HJN.out]; have hj := b10; rw [← HJ.out.1] at hj; have hin := iu10; exact ⟨hj, trivial, trivial, hin⟩); have lP10 : Sem.run PD (loadCellsFrom ⟨w.heap.size, 0, none⟩ 0 k40 #[]) w10 = .ok P w10 := load_block ((F10.block _ hpbs (fun hc => by rcases hc with hc | hc; omega; (have := HSB.out.2.1; omega))).trans (HW4.out.2.keep HB.out.1)) hPk (fun j u hu => by simpa using hu))) | (go_at_call 62; go_loud (refine (at_prog HP.out (HFJ.out _ ij10 cc10)).mono ?_; rintro e w11 ⟨rfl, hf11⟩; have cc11 := hf11.cell cc10)) | fail)
          go_ret
          have b11 := hf11.keep b10
          have iu11 := iu10.no hf11
          have F11 : Fr (fun k => k = sb) w w11 := by
            have h0 : Fr (fun k => k = sb) w w9 := W9.no
            have h1 : Fr (fun k => k = sb) w w10 := by rw [← hw10]; exact h0.trans (Fr.setCell _ _ _ _ rfl)
            exact h1.trans hf11.no
          have hwj : w.heap.size ≤ jb := by have := HJB.out.2.2; omega
          refine ⟨jb, jb, jb + 1, rfl, hwj, by omega, by omega, F11, fun v' cs' T' h => ?_, .inl hwj, ⟨JC, b11, ?_, ?_⟩, fun v' w'' hk hC hv => ?_⟩
          · have e : rt (top p v' jb (jb + 1) (.node g q v l r)) = .pointer (some ⟨jb, 0, none⟩) := by
              rw [top, if_neg HQP.out.1, if_pos HCP.out]; unfold fork; split <;> rfl
            rw [e]
            refine hf11.keep ?_
            rw [← hw10]
            exact setCell_same (W9.keep h) _
          · rw [← HJ.out.1, List.size_toArray]; exact cellsOf_length HQP.out.2.2.2.2.1.1 _ _ _
          · rw [show getN p (.node g q v l r) = none from if_neg HQP.out.1]; exact HJ.out.2.2.1
          · have h1 := hC _ b11
            rw [← HJ.out.1, cells_v HQP.out.2.2.2.2.1.1] at h1
            have hin : In 103 50 w'' (.node g q v l r) := iu11.keep fun k hm => hk k (iu11.lt k hm) (fun hc => by have := HI4.out.lt k hm; have := HJB.out.2.2; omega) (fun hc => HSB.out.1 (hc ▸ hm)) (fun hc => HAU.out.1 (hc ▸ hm))
            have hdd := HDD.out
            rw [HCP.out] at h1 hdd
            rw [top, if_neg HQP.out.1, if_pos HCP.out]
            unfold fork
            rw [hdd, if_pos rfl]
            have hj := h1
            exact ⟨hj, hv, trivial, hin⟩
        · have hjs := joint_side (g1 := jb) (g := g) (u := v) (l := l) (r := r) HP0.out.2.1 HKA.out.2.2 HQP.out.2.2.1 HQP.out.2.1 hcp
          have HFJ : Hid (∀ w', In 103 50 w' (joint p jb g q v l r) → w'.cell? ⟨sb, so, none⟩ = some (.pointer (some ⟨jb, 0, none⟩)) → Calls Tryz.prog 62 #[.pointer (some ⟨sb, so, none⟩), .agg P] w' fun e w'' => e = .returned (.pointer (some ⟨jb, 19, none⟩)) ∧ Fr No w' w'') := fun w' h1 h2 => by
            have h := HFD.out sb so _ w' h1 (HQP.out.2.2.2.1 jb).1 (by rw [HJN.out]; exact h2)
            rw [hjs.1, HJN.out, HDD.out, slotOf, if_neg (by decide), slotOf] at h
            exact h
          have HCP := Lib.hid hcp
          clear hcp hjs
          go_wp2_with (first | (go_at_call 81; go_loud (refine (at_prog HP.out (HSD.out _ HJB.out.1)).mono ?_; rintro e w8 ⟨rfl, hf8⟩; have hb8 := hf8.keep HJB.out.1; have c8 := cell_of hb8 HJ.out.2.2.2; have z8 := frozen_of_row w8 jb 20 _ _ hb8; obtain ⟨w9, hw9⟩ : ∃ w9, w8.setCell ⟨jb, 20, none⟩ (.pointer (some ⟨g, 0, none⟩)) = w9 := ⟨_, rfl⟩; have F9 : Fr (fun k => k = jb) w4 w9 := (by rw [← hw9]; exact ((HJB.out.2.1.trans hf8).no).trans (Fr.setCell _ _ _ _ rfl)); have W9 : Fr No w w9 := HW4.out.1.ofNew F9 (fun k hk => .inr (by rw [hk]; have := HJB.out.2.2; omega)); have b9 : w9.heap[jb]? = some (.cells JC 103 (0, 0)) := (by rw [← hw9, setCell_same hb8, hJset]); have c9 : w9.cell? ⟨sb, so, none⟩ = some (.pointer (some ⟨g, 0, none⟩)) := (HSC.out w9 W9).1; have z9 := frozen_of_row w9 sb so _ _ (W9.keep HCS.out); obtain ⟨w10, hw10⟩ : ∃ w10, w9.setCell ⟨sb, so, none⟩ (.pointer (some ⟨jb, 0, none⟩)) = w10 := ⟨_, rfl⟩; have b10 : w10.heap[jb]? = some (.cells JC 103 (0, 0)) := (by rw [← hw10, setCell_other _ (by omega)]; exact b9); have F10 : Fr (fun k => k = jb ∨ k = sb) w4 w10 := (by rw [← hw10]; exact (F9.mono (fun k _ h => .inl h)).trans (Fr.setCell _ _ _ _ (.inr rfl))); have cc10 : w10.cell? ⟨sb, so, none⟩ = some (.pointer (some ⟨jb, 0, none⟩)) := (by rw [← hw10]; exact cell_of (setCell_same (W9.keep HCS.out) _) (by have := (Array.getElem?_eq_some_iff.1 (cell_heap (W9.keep HCS.out) c9)).1; rw [Array.getElem?_setIfInBounds_self_of_lt this])); have iu10 : In 103 50 w10 (.node g q v l r) := HI4.out.fr F10 (fun k hk hc => by rcases hc with hc | hc; (have := HI4.out.lt k hk; have := HJB.out.2.2; omega); exact HSB.out.1 (hc ▸ hk)); have ij10 : In 103 50 w10 (joint p jb g q v l r) := (by rw [HJN.out]; have hj := b10; rw [← HJ.out.1] at hj; have hin := iu10; exact ⟨hj, trivial, trivial, hin⟩); have lP10 : Sem.run PD (loadCellsFrom ⟨w.heap.size, 0, none⟩ 0 k40 #[]) w10 = .ok P w10 := load_block ((F10.block _ hpbs (fun hc => by rcases hc with hc | hc; omega; (have := HSB.out.2.1; omega))).trans (HW4.out.2.keep HB.out.1)) hPk (fun j u hu => by simpa using hu))) | (go_at_call 62; go_loud (refine (at_prog HP.out (HFJ.out _ ij10 cc10)).mono ?_; rintro e w11 ⟨rfl, hf11⟩; have b11 := hf11.keep b10; have jj11 := cell_of b11 HJ.out.2.1; have lP11 : Sem.run PD (loadCellsFrom ⟨w.heap.size, 0, none⟩ 0 k40 #[]) w11 = .ok P w11 := load_block (((F10.trans hf11.no).block _ hpbs (fun hc => by rcases hc with hc | hc; omega; (have := HSB.out.2.1; omega))).trans (HW4.out.2.keep HB.out.1)) hPk (fun j u hu => by simpa using hu); have b12 := (Fr.alloc No w11 (.cells CN 103)).keep b11; have jj12 := cell_of b12 HJ.out.2.1; have z12 := frozen_of_row (w11.alloc (.cells CN 103)) jb 19 _ _ b12)) | fail)
          go_ret
          have iu11 := iu10.no hf11
          have F11 : Fr (fun k => k = sb) w w11 := by
            have h0 : Fr (fun k => k = sb) w w9 := W9.no
            have h1 : Fr (fun k => k = sb) w w10 := by rw [← hw10]; exact h0.trans (Fr.setCell _ _ _ _ rfl)
            exact h1.trans hf11.no
          have hwj : w.heap.size ≤ jb := by have := HJB.out.2.2; omega
          obtain ⟨nb, hnb⟩ : ∃ nb, w11.heap.size = nb := ⟨_, rfl⟩
          have hjn : jb < nb := by rw [← hnb]; exact some_lt b11
          rw [hnb]
          obtain ⟨w13, hw13⟩ : ∃ w13, (w11.alloc (.cells CN 103)).setCell ⟨jb, 19, none⟩ (.pointer (some ⟨nb, 0, none⟩)) = w13 := ⟨_, rfl⟩
          rw [hw13]
          have F13 : Fr (fun k => k = jb) w11 w13 := by rw [← hw13]; exact (Fr.alloc _ _ _).trans (Fr.setCell _ _ _ _ rfl)
          have N13 : w13.heap[nb]? = some (.cells CN 103 (0, 0)) := by rw [← hw13, setCell_other _ (by omega), ← hnb]; exact heap_alloc_new w11 _
          have J13 : w13.heap[jb]? = some (.cells (JC.setIfInBounds 19 (.pointer (some ⟨nb, 0, none⟩))) 103 (0, 0)) := by rw [← hw13]; exact setCell_same b12 _
          have iu13 : In 103 50 w13 (.node g q v l r) := iu11.fr F13 fun k hm hc => by have := HI4.out.lt k hm; have := HJB.out.2.2; omega
          refine ⟨nb, jb, nb, rfl, hwj, by omega, by omega, F11.ofNew F13 (fun k hk => .inr (by omega)), fun v' cs' T' h => ?_, .inl (by omega), ⟨CN, N13, ?_, ?_⟩, fun v' w'' hk hC hv => ?_⟩
          · have e : rt (top p v' jb nb (.node g q v l r)) = .pointer (some ⟨jb, 0, none⟩) := by
              rw [top, if_neg HQP.out.1, if_neg HCP.out]; unfold fork; split <;> rfl
            rw [e, F13.block sb (by have := some_lt h; have := F11.size; omega) (by omega)]
            refine hf11.keep ?_
            rw [← hw10]
            exact setCell_same (W9.keep h) _
          · rw [← HCN.out, List.size_toArray]; exact cellsOf_length HP0.out.2.1.1 _ _ _
          · rw [show getN p (.node g q v l r) = none from if_neg HQP.out.1, ← HCN.out]; exact (cellsOf_at HP0.out.2.1.1 none .nil .nil).1
          · have h1 := hC _ N13
            rw [← HCN.out, cells_v HP0.out.2.1.1] at h1
            have hin : In 103 50 w'' (.node g q v l r) := iu13.keep fun k hm => hk k (iu13.lt k hm) (fun hc => by have := HI4.out.lt k hm; have := HJB.out.2.2; omega) (fun hc => HSB.out.1 (hc ▸ hm)) (fun hc => HAU.out.1 (hc ▸ hm))
            have hj0 : w''.heap[jb]? = some (.cells (cellsOf (com q p) none (.node nb p none .nil .nil) (.node g q v l r)).toArray 103 (0, 0)) := by
              rw [hk jb (some_lt J13) (by omega) (by omega) (by have := HAU.out.2; omega), J13, ← HJ.out.1]
              exact congrArg (fun c => some (Obj.cells c 103 (0, 0))) (cells_l HQP.out.2.2.2.2.1.1 none _ _ (.node nb p none .nil .nil))
            rw [top, if_neg HQP.out.1, if_neg HCP.out]
            unfold fork
            rw [HDD.out, if_pos rfl]
            have hj : w''.heap[jb]? = some (.cells (cellsOf (com q p) none (.node nb p (some v') .nil .nil) (.node g q v l r)).toArray 103 (0, 0)) := hj0
            exact ⟨hj, trivial, ⟨h1, hv, trivial, trivial⟩, hin⟩
end Go.Proofs.YtnadendhboiliaaGreat
namespace Go.Proofs.YtnadendhboiliaaGreat
open Go.ChangeShapes Go.WideShapes Go.ChangeAt Go.RowKit
set_option linter.unusedVariables false

/-- The trie after a put. -/
def AfterL (w : World) (a : Nat) (t4 t6 : Tr) (L : List (Px × Value)) (w' : World) : Prop := ∃ t4' t6', Tri 103 50 75 w' a t4' t6' ∧ t4'.toL ++ t6'.toL = L ∧ Fr (own a t4 t6) w w' ∧ ∀ k, own a t4' t6' k → own a t4 t6 k ∨ w.heap.size ≤ k

set_option maxHeartbeats 8000000 in
set_option maxRecDepth 100000 in
theorem insertL (p : Px) (hp : Bytes p.xs) (x : Value) (hx : ∃ z : Option Addr × Nat × Nat, x = .slice z.1 z.2.1 z.2.2) (a : Nat) (ta tb : Tr) (w : World) (hT : Tri 103 50 75 w a ta tb) (hM : (ta.toL ++ tb.toL).length ≤ 100000) :
    Calls Tryz.prog 40 #[.pointer (some ⟨a, 0, none⟩), .agg (pfx p.b p.xs p.n).toArray, x] w fun e w' => e = .returned (.bool (validP p.b p.xs p.n)) ∧ AfterL w a ta tb (if validP p.b p.xs p.n = true then putL p x (ta.toL ++ tb.toL) else ta.toL ++ tb.toL) w' := by
  obtain ⟨P, hP0, -, -, hPs, -, -⟩ := pfx_letter p.b p.xs p.n hp
  rw [hP0]
  obtain ⟨b1, b2, hF⟩ := alloc2 w (.cells P 29) (.cells #[x] 50)
  have HB : Hid (((w.alloc (.cells P 29)).alloc (.cells #[x] 50)).heap[w.heap.size]? = some (.cells P 29 (0, 0)) ∧ ((w.alloc (.cells P 29)).alloc (.cells #[x] 50)).heap[w.heap.size + 1]? = some (.cells #[x] 50 (0, 0)) ∧ Fr No w ((w.alloc (.cells P 29)).alloc (.cells #[x] 50))) := ⟨b1, b2, hF⟩
  have HV : Hid (∀ w', Calls Tryz.prog 38 #[.agg P] w' fun e w'' => e = .returned (.bool (validP p.b p.xs p.n)) ∧ Fr No w' w'') := fun w' => by rw [← hP0]; exact validp_any p.b p.xs p.n hp w'
  have HP0 := Lib.hid hP0
  have HT := Lib.hid hT
  cases hv : validP p.b p.xs p.n with
  | false =>
    rw [hv] at HV
    clear b1 b2 hF hP0 hT hv
    obtain ⟨z, rfl⟩ := hx
    go_enter Tryz.func40, Tryz.ntmps40
    have t3 := Tryz.underlying3
    have u3 := Tryz.runUnderlying3
    have g3 := Tryz.isAgg3
    have z3 := Tryz.sizeOf3
    have t4 := Tryz.underlying4
    have u4 := Tryz.runUnderlying4
    have g4 := Tryz.isAgg4
    have z4 := Tryz.sizeOf4
    have t9 := Tryz.underlying9
    have u9 := Tryz.runUnderlying9
    have g9 := Tryz.isAgg9
    have z9 := Tryz.sizeOf9
    have t25 := Tryz.underlying25
    have u25 := Tryz.runUnderlying25
    have g25 := Tryz.isAgg25
    have z25 := Tryz.sizeOf25
    have t29 := Tryz.underlying29
    have u29 := Tryz.runUnderlying29
    have g29 := Tryz.isAgg29
    have z29 := Tryz.sizeOf29
    have t50 := Tryz.underlying50
    have u50 := Tryz.runUnderlying50
    have g50 := Tryz.isAgg50
    have z50 := Tryz.sizeOf50
    have t73 := Tryz.underlying73
    have u73 := Tryz.runUnderlying73
    have g73 := Tryz.isAgg73
    have z73 := Tryz.sizeOf73
    have t103 := Tryz.underlying103
    have u103 := Tryz.runUnderlying103
    have g103 := Tryz.isAgg103
    have z103 := Tryz.sizeOf103
    have t48 := Tryz.underlying48
    have u48 := Tryz.runUnderlying48
    have g48 := Tryz.isAgg48
    have z48 := Tryz.sizeOf48
    have t100 := Tryz.underlying100
    have u100 := Tryz.runUnderlying100
    have g100 := Tryz.isAgg100
    have z100 := Tryz.sizeOf100
    have t75 := Tryz.underlying75
    have u75 := Tryz.runUnderlying75
    have g75 := Tryz.isAgg75
    have z75 := Tryz.sizeOf75
    have c38 := Tryz.call38
    have c64 := Tryz.call64
    have mixed : Tryz.prog.follows .mixedOrders = true := by kernel_rfl
    obtain ⟨k40, hk40⟩ : ∃ k, k = 18 := ⟨_, rfl⟩
    rw [← hk40] at z29
    have nk40 : ¬ k40 = 0 := by omega
    have HK29 := Lib.hid hk40
    have hP : Tryz.prog = PD := rfl
    rw [hP] at t3 u3 g3 z3 t4 u4 g4 z4 t9 u9 g9 z9 t25 u25 g25 z25 t29 u29 g29 z29 t50 u50 g50 z50 t73 u73 g73 z73 t103 u103 g103 z103 t48 u48 g48 z48 t100 u100 g100 z100 t75 u75 g75 z75 c38 c64 mixed ⊢
    have HP := Lib.hid hP.symm
    clear hP hk40
    have hPk : P.size = k40 := by rw [HK29.out]; exact hPs
    have l0 : Sem.run PD (loadCellsFrom ⟨w.heap.size, 0, none⟩ 0 k40 #[]) ((w.alloc (.cells P 29)).alloc (.cells #[.slice z.1 z.2.1 z.2.2] 50)) = .ok P ((w.alloc (.cells P 29)).alloc (.cells #[.slice z.1 z.2.1 z.2.2] 50)) := load_block HB.out.1 hPk (fun j v hv => by simpa using hv)
    clear hPs
    go_wp2_with (first | (go_at_call 38; go_loud (refine (at_prog HP.out (HV.out _)).mono ?_; rintro e w3 ⟨rfl, hf3⟩)) | fail)
    go_ret
    have hw := HB.out.2.2.trans hf3
    exact ⟨rfl, ta, tb, HT.out.no hw, rfl, hw.no, fun k hk => .inl hk⟩
  | true =>
    rw [hv] at HV
    have hok : okP p := ⟨hp, hv⟩
    obtain ⟨ao, hao⟩ : ∃ ao, (if p.b = true then 1 else 0 : Nat) = ao := ⟨_, rfl⟩
    obtain ⟨sb, so, hsl⟩ := slot_form a ao (mine p ta tb) (fp (mine p ta tb) p) (fp_ok _ p)
    obtain ⟨u, hu⟩ : ∃ u, sub (mine p ta tb) (fp (mine p ta tb) p) = u := ⟨_, rfl⟩
    obtain ⟨gv, hgv⟩ : ∃ gv, getT (mine p ta tb) p = gv := ⟨_, rfl⟩
    have HPR : Hid (∀ w', Fr No w w' → Calls Tryz.prog 64 #[.pointer (some ⟨a, 0, none⟩), .agg P] w' fun e w'' => ∃ gp g1 g2, e = .returned (.pointer (some ⟨gp, 0, none⟩)) ∧ ProvL w' a sb so u p gv gp g1 g2 w'') := fun w' hf => by
      have h := provideL p hok a ao (mine p ta tb) ta tb w' (hT.no hf) hao rfl sb so hsl
      rw [hP0, hu, hgv] at h
      exact h
    have hval : gv.map (·.2) = valL (ta.toL ++ tb.toL) p := by rw [← hgv]; exact get_val hT p
    have hlen := putL_len (p := p) (x := x) (both_srt hT.w4 hT.w6 hT.f4 hT.f6)
    have hul : ∀ k ∈ blk u, k ∈ blk (mine p ta tb) := fun k hk => sub_blk (by rw [hu]; exact hk)
    have halt : a < w.heap.size := some_lt hT.head
    obtain ⟨hown, hnot, -, -⟩ := place hT (fp_ok _ p) hsl
    have hsblt : sb < w.heap.size := hT.lt hown
    have HX := Lib.hid (And.intro hok (And.intro hao (And.intro hsl (And.intro hul (And.intro hown (And.intro hnot hlen))))))
    have HUG := Lib.hid (And.intro hu hgv)
    have hn0 : (0 : Int) ≤ ((ta.toL ++ tb.toL).length : Nat) := by omega
    obtain ⟨n, hn⟩ : ∃ n, (ta.toL ++ tb.toL).length = n := ⟨_, rfl⟩
    have hnM : n ≤ 100000 := by rw [← hn]; exact hM
    have hw1 : IntKind.i64.wrap ((n : Int) + 1) = (n : Int) + 1 := by rw [IntKind.wrap_i64]; omega
    have HN := Lib.hid hn
    -- the memory in the end
    have HEND : Hid (∀ (w3 w4 w6 : World) (gp g1 g2 : Nat), Fr No ((w.alloc (.cells P 29)).alloc (.cells #[x] 50)) w3 → ProvL w3 a sb so u p gv gp g1 g2 w4 → Fr (fun k => k = a ∨ k = gp) w4 w6 → (∀ C : Array Value, w4.heap[gp]? = some (.cells C 103 (0, 0)) → w6.heap[gp]? = some (.cells (C.setIfInBounds 18 (vp (some (w.heap.size + 1, x)))) 103 (0, 0))) → (∀ r4 r6, w4.heap[a]? = some (.cells #[r4, r6, .int .i64 (n : Int)] 75 (0, 0)) → w6.heap[a]? = some (.cells #[r4, r6, .int .i64 ((putL p x (ta.toL ++ tb.toL)).length : Nat)] 75 (0, 0))) → AfterL w a ta tb (putL p x (ta.toL ++ tb.toL)) w6) := by
      intro w3 w4 w6 gp g1 g2 hf3 hpr hf6 hgpc hhc
      have W3 : Fr No w w3 := HB.out.2.2.trans hf3
      have hT3 := hT.no W3
      have hs3 : w.heap.size + 2 ≤ w3.heap.size := by
        have h1 := hf3.size
        have h2 : ((w.alloc (.cells P 29)).alloc (.cells #[x] 50)).heap.size = w.heap.size + 1 + 1 := by simp
        omega
      have hgpn : gp ≠ a ∧ gp ∉ blk (other p ta tb) ∧ (gp ∉ blk (mine p ta tb) ∨ gp ∈ blk (sub (mine p ta tb) (fp (mine p ta tb) p))) ∧ (own a ta tb gp ∨ w3.heap.size ≤ gp) ∧ gp ≠ w.heap.size + 1 := by
        rcases hpr.here with h | h
        · exact ⟨by omega, fun hc => by have := (other_in hT p).1.lt gp hc; omega, .inl fun hc => by have := (hT.mine_wf p).2.2.2.2.lt gp hc; omega, .inr h, by omega⟩
        · have h1 := hul gp h
          have h2 := mine_other hT h1
          exact ⟨h2.2, h2.1, .inr (by rw [hu]; exact h), .inl (own_mine h1), by have := (hT.mine_wf p).2.2.2.2.lt gp h1; omega⟩
      have hvb : VAt 50 w6 (some (w.heap.size + 1, x)) := by
        have h1 : w3.heap[w.heap.size + 1]? = some (.cells #[x] 50 (0, 0)) := hf3.keep HB.out.2.1
        have h2 := (hpr.fr.block _ (some_lt h1) (by omega)).trans h1
        exact (hf6.block _ (some_lt h2) (by have := hgpn.2.2.2.2; omega)).trans h2
      have hsame : ∀ k, k < w4.heap.size → k ≠ gp → k ≠ a → w6.heap[k]? = w4.heap[k]? := fun k hk h1 h2 => hf6.block k hk (fun hc => hc.elim h2 h1)
      have htop := hpr.fin (w.heap.size + 1, x) w6 (fun k hk h1 _ h3 => hsame k hk h1 h3) hgpc hvb
      have hmw := hT3.mine_wf p
      have hslot3 := hpr.slot (w.heap.size + 1, x)
      have hin : In 103 50 w6 (ins p (w.heap.size + 1, x) g1 g2 (mine p ta tb)) := by
        refine prov_fin (T := 95) (a := a) (ao := ao) (gp := gp) (w := w3) (w' := w4) hmw.2.2.2.2 hmw.1 hmw.2.2.1 hmw.2.2.2.1 ?_ ?_ hgpn.2.2.1 hsame (by rw [hu]; exact htop)
        · rw [hsl]; exact hpr.fr
        · rw [hsl, hu]; exact hslot3
      have hoth : In 103 50 w6 (other p ta tb) := by
        obtain ⟨o1, o2⟩ := other_in hT3 p
        have h4 : In 103 50 w4 (other p ta tb) := o1.fr hpr.fr fun k hk hc => hnot (hc ▸ hk)
        exact h4.fr hf6 fun k hk hc => by
          rcases hc with hc | hc
          · exact o2 (hc ▸ hk)
          · exact hgpn.2.1 (hc ▸ hk)
      have hh4 := prov_head (v := (w.heap.size + 1, x)) (g1 := g1) (g2 := g2) hT3 hao hsl hpr.fr (by rw [hu]; exact hslot3)
      rw [hn] at hh4
      have hh6 := hhc _ _ hh4
      have n1 := hpr.n1
      have n2 := hpr.n2
      obtain ⟨r1, r2, r3⟩ := tri_ins (v := (w.heap.size + 1, x)) hT hok (by show w.heap.size + 1 ≠ g1; omega) (by show w.heap.size + 1 ≠ g2; omega) hpr.n3 (by show w.heap.size ≤ w.heap.size + 1; omega) (by omega) (by omega) hin hoth hh6
      refine ⟨_, _, r1, r2, ?_, r3⟩
      have h4 : Fr (own a ta tb) w w4 := W3.no.trans (hpr.fr.mono fun k _ hk => by rw [hk]; exact hown)
      refine h4.ofNew hf6 fun k hk => ?_
      rcases hk with hk | hk
      · rw [hk]; exact .inl (.inl rfl)
      · rcases hgpn.2.2.2.1 with h | h
        · rw [hk]; exact .inl h
        · rw [hk]; exact .inr (by omega)
    have HA : Hid (a ≠ sb → True) := fun _ => trivial
    have hab : ∀ w3 w4 gp g1 g2, Fr No ((w.alloc (.cells P 29)).alloc (.cells #[x] 50)) w3 → ProvL w3 a sb so u p gv gp g1 g2 w4 → (∃ r4 r6, w4.heap[a]? = some (.cells #[r4, r6, .int .i64 (n : Int)] 75 (0, 0))) ∧ gp ≠ a := by
      intro w3 w4 gp g1 g2 hf3 hpr
      have hT3 := hT.no (HB.out.2.2.trans hf3)
      have hh4 := prov_head (v := (0, x)) (g1 := g1) (g2 := g2) hT3 hao hsl hpr.fr (by rw [hu]; exact hpr.slot (0, x))
      rw [hn] at hh4
      refine ⟨⟨_, _, hh4⟩, ?_⟩
      rcases hpr.here with h | h
      · have := (HB.out.2.2.trans hf3).size; omega
      · exact (mine_other hT (hul gp h)).2
    have HAB := Lib.hid hab
    rw [if_pos rfl]
    clear b1 b2 hF hP0 hT hv hsl hu hgv hul hown hnot hok hao hab hn hM
    obtain ⟨z, rfl⟩ := hx
    go_enter Tryz.func40, Tryz.ntmps40
    have t3 := Tryz.underlying3
    have u3 := Tryz.runUnderlying3
    have g3 := Tryz.isAgg3
    have z3 := Tryz.sizeOf3
    have t4 := Tryz.underlying4
    have u4 := Tryz.runUnderlying4
    have g4 := Tryz.isAgg4
    have z4 := Tryz.sizeOf4
    have t9 := Tryz.underlying9
    have u9 := Tryz.runUnderlying9
    have g9 := Tryz.isAgg9
    have z9 := Tryz.sizeOf9
    have t25 := Tryz.underlying25
    have u25 := Tryz.runUnderlying25
    have g25 := Tryz.isAgg25
    have z25 := Tryz.sizeOf25
    have t29 := Tryz.underlying29
    have u29 := Tryz.runUnderlying29
    have g29 := Tryz.isAgg29
    have z29 := Tryz.sizeOf29
    have t50 := Tryz.underlying50
    have u50 := Tryz.runUnderlying50
    have g50 := Tryz.isAgg50
    have z50 := Tryz.sizeOf50
    have t73 := Tryz.underlying73
    have u73 := Tryz.runUnderlying73
    have g73 := Tryz.isAgg73
    have z73 := Tryz.sizeOf73
    have t103 := Tryz.underlying103
    have u103 := Tryz.runUnderlying103
    have g103 := Tryz.isAgg103
    have z103 := Tryz.sizeOf103
    have t48 := Tryz.underlying48
    have u48 := Tryz.runUnderlying48
    have g48 := Tryz.isAgg48
    have z48 := Tryz.sizeOf48
    have t100 := Tryz.underlying100
    have u100 := Tryz.runUnderlying100
    have g100 := Tryz.isAgg100
    have z100 := Tryz.sizeOf100
    have t75 := Tryz.underlying75
    have u75 := Tryz.runUnderlying75
    have g75 := Tryz.isAgg75
    have z75 := Tryz.sizeOf75
    have c38 := Tryz.call38
    have c64 := Tryz.call64
    have mixed : Tryz.prog.follows .mixedOrders = true := by kernel_rfl
    obtain ⟨k40, hk40⟩ : ∃ k, k = 18 := ⟨_, rfl⟩
    rw [← hk40] at z29
    have nk40 : ¬ k40 = 0 := by omega
    have HK29 := Lib.hid hk40
    have hP : Tryz.prog = PD := rfl
    rw [hP] at t3 u3 g3 z3 t4 u4 g4 z4 t9 u9 g9 z9 t25 u25 g25 z25 t29 u29 g29 z29 t50 u50 g50 z50 t73 u73 g73 z73 t103 u103 g103 z103 t48 u48 g48 z48 t100 u100 g100 z100 t75 u75 g75 z75 c38 c64 mixed ⊢
    have HP := Lib.hid hP.symm
    clear hP hk40
    have hPk : P.size = k40 := by rw [HK29.out]; exact hPs
    have HL : Hid (∀ w', Fr No ((w.alloc (.cells P 29)).alloc (.cells #[.slice z.1 z.2.1 z.2.2] 50)) w' → Sem.run PD (loadCellsFrom ⟨w.heap.size, 0, none⟩ 0 k40 #[]) w' = .ok P w') := fun w' hf => load_block (hf.keep HB.out.1) hPk (fun j v hv => by simpa using hv)
    have l0 := HL.out _ (Fr.refl _ _)
    clear hPs
    go_upto_region 4 with (first | (go_at_call 38; go_loud (refine (at_prog HP.out (HV.out _)).mono ?_; rintro e w3 ⟨rfl, hf3⟩; have l3 := HL.out _ hf3)) | (go_at_call 64; go_loud (refine (at_prog HP.out (HPR.out _ (HB.out.2.2.trans hf3))).mono ?_; rintro e w4 ⟨gp, g1, g2, rfl, hpr⟩; obtain ⟨C, hC, hCs, hC18⟩ := hpr.cell; have c18 := cell_of hC hC18)) | fail)
    obtain ⟨⟨r4, r6, hha⟩, hgpa⟩ := HAB.out w3 w4 gp g1 g2 hf3 hpr
    have ca2 : w4.cell? ⟨a, 2, none⟩ = some (.int .i64 (n : Int)) := cell_of hha rfl
    have za2 := frozen_of_row w4 a 2 _ _ hha
    have zg := frozen_of_row w4 gp 18 _ _ hC
    have HQ := Lib.hid (And.intro hf3 (And.intro hpr (And.intro hC hha)))
    clear hf3 hpr hCs hC18 l3 l0
    cases gv with
    | none =>
      have hlen2 : (putL p (.slice z.1 z.2.1 z.2.2) (ta.toL ++ tb.toL)).length = n + 1 := by rw [hlen, ← hval, HN.out]; rfl
      obtain ⟨w5, hw5⟩ : ∃ w5, w4.setCell ⟨a, 2, none⟩ (.int .i64 ((n : Int) + 1)) = w5 := ⟨_, rfl⟩
      have F5 : Fr (fun k => k = a) w4 w5 := by rw [← hw5]; exact Fr.setCell _ _ _ _ rfl
      have hC5 : w5.heap[gp]? = some (.cells C 103 (0, 0)) := by rw [← hw5, setCell_other _ hgpa]; exact hC
      have hha5 : w5.heap[a]? = some (.cells #[r4, r6, .int .i64 ((n : Int) + 1)] 75 (0, 0)) := by rw [← hw5]; exact setCell_same hha _
      have c185 : w5.cell? ⟨gp, 18, none⟩ = some (vp none) := by
        have h1 := cell_heap hC c18
        exact cell_of hC5 h1
      have zg5 := frozen_of_row w5 gp 18 _ _ hC5
      rw [show vp none = .pointer none from rfl] at c18 c185
      have HQ5 := Lib.hid (And.intro F5 (And.intro hC5 hha5))
      clear hlen hval F5 hC5 hha5 hC hha
      go_wp2_with fail
      go_ret
      refine ⟨rfl, HEND.out w3 w4 _ gp g1 g2 HQ.out.1 HQ.out.2.1 (((HQ5.out.1).mono fun k _ h => .inl h).trans (Fr.setCell _ _ _ _ (.inr rfl))) (fun C' h => ?_) (fun r4' r6' h => ?_)⟩
      · have h1 := HQ.out.2.2.1
        rw [h1] at h
        cases h
        exact setCell_same HQ5.out.2.1 _
      · have h1 := HQ.out.2.2.2
        rw [h1] at h
        cases h
        rw [setCell_other _ (fun h => hgpa h.symm), HQ5.out.2.2, hlen2]
        rfl
    | some ux =>
      obtain ⟨vb, y⟩ := ux
      have hlen2 : (putL p (.slice z.1 z.2.1 z.2.2) (ta.toL ++ tb.toL)).length = n := by rw [hlen, ← hval, HN.out]; rfl
      rw [show vp (some (vb, y)) = .pointer (some ⟨vb, 0, none⟩) from rfl] at c18
      clear hlen hval hC hha
      go_wp2_with fail
      go_ret
      refine ⟨rfl, HEND.out w3 w4 _ gp g1 g2 HQ.out.1 HQ.out.2.1 (Fr.setCell _ _ _ _ (.inr rfl)) (fun C' h => setCell_same h _) (fun r4' r6' h => ?_)⟩
      rw [setCell_other _ (fun h => hgpa h.symm), h, hlen2]
end Go.Proofs.YtnadendhboiliaaGreat
namespace Go.Proofs.YtnadendhboiliaaGreat
open Go.ChangeShapes Go.WideShapes Go.ChangeAt Go.RowKit
set_option linter.unusedVariables false

abbrev StL := St 103 50 75
theorem newSL (w : World) (X : Nat → Prop) (hX : ∀ k, X k → k < w.heap.size) :
    Calls Tryz.prog 19 #[] w fun e w' => ∃ a, e = .returned (.pointer (some ⟨a, 0, none⟩)) ∧ w.heap.size ≤ a ∧ Fr No w w' ∧ StL w' a [] X := by
  refine (newL w).mono ?_
  rintro e w' ⟨a, he, ha, hf, hT⟩
  refine ⟨a, he, ha, hf, .nil, .nil, hT, rfl, fun k hk hx => ?_⟩
  have := hX k hx
  rcases hk with h | h | h
  · omega
  · cases h
  · cases h
theorem insertSL {w : World} {a : Nat} {L : List (Px × Value)} {X : Nat → Prop} (hS : StL w a L X) (hX : ∀ k, X k → k < w.heap.size) (hM : L.length ≤ 100000) (p : Px) (hp : Bytes p.xs) (x : Value) (hx : ∃ z : Option Addr × Nat × Nat, x = .slice z.1 z.2.1 z.2.2) :
    Calls Tryz.prog 40 #[.pointer (some ⟨a, 0, none⟩), .agg (pfx p.b p.xs p.n).toArray, x] w fun e w' => e = .returned (.bool (validP p.b p.xs p.n)) ∧ StL w' a (if validP p.b p.xs p.n = true then putL p x L else L) X ∧ Fr (fun k => ¬ X k) w w' := by
  obtain ⟨t4, t6, hT, rfl, ho⟩ := hS
  refine (insertL p hp x hx a t4 t6 w hT hM).mono ?_
  rintro e w' ⟨he, t4', t6', h1, h2, h3, h4⟩
  refine ⟨he, ⟨t4', t6', h1, h2, fun k hk hx => ?_⟩, h3.mono fun k _ hk => ho k hk⟩
  rcases h4 k hk with h | h
  · exact ho k h hx
  · have := hX k hx; omega
end Go.Proofs.YtnadendhboiliaaGreat
namespace Go.Proofs.YtnadendhboiliaaGreat
open Go.ChangeShapes Go.WideShapes Go.ChangeAt Go.RowKit
set_option linter.unusedVariables false

/-- The value found, or nothing. -/
def ansL : Option (Nat × Value) → Value
  | none => .slice none 0 0
  | some (_, x) => x
set_option maxHeartbeats 4000000 in
set_option maxRecDepth 100000 in
theorem getL (p : Px) (hp : Bytes p.xs) (a : Nat) (t4 t6 : Tr) (w : World) (hT : Tri 103 50 75 w a t4 t6) :
    Calls Tryz.prog 39 #[.pointer (some ⟨a, 0, none⟩), .agg (pfx p.b p.xs p.n).toArray] w fun e w' => e = .returned (.tuple #[ansL (getT (if p.b = true then t6 else t4) p), .bool (getT (if p.b = true then t6 else t4) p).isSome]) ∧ Fr No w w' := by
  obtain ⟨t, ht⟩ : ∃ t, (if p.b = true then t6 else t4) = t := ⟨_, rfl⟩
  have hit : In 103 50 w t ∧ Wf t ∧ w.cell? ⟨a, if p.b = true then 1 else 0, none⟩ = some (rt t) := by
    cases hpb : p.b with
    | true => rw [hpb, if_pos rfl] at ht; rw [if_pos rfl, ← ht]; exact ⟨hT.i6, hT.w6, cell_of hT.head rfl⟩
    | false => rw [hpb, if_neg (by decide)] at ht; rw [if_neg (by decide), ← ht]; exact ⟨hT.i4, hT.w4, cell_of hT.head rfl⟩
  rw [ht]
  obtain ⟨P, hP0, -, -, hPs, hPA, -⟩ := pfx_letter p.b p.xs p.n hp
  obtain ⟨B, hB, -, hBs, -⟩ := adr_letter p.b p.xs hp
  rw [hB] at hPA
  rw [hP0]
  have HRT : Hid (∀ w', Calls Tryz.prog 63 #[.pointer (some ⟨a, 0, none⟩), .agg B] w' fun e w'' => e = .returned (.pointer (some ⟨a, if p.b = true then 1 else 0, none⟩)) ∧ Fr No w' w'') := fun w' => by rw [← hB]; exact rootL a p.b p.xs hp w'
  obtain ⟨ao, hao⟩ : ∃ ao, (if p.b = true then 1 else 0 : Nat) = ao := ⟨_, rfl⟩
  rw [hao] at hit HRT
  have HFD : Hid (∀ w', Fr No w w' → Calls Tryz.prog 62 #[.pointer (some ⟨a, ao, none⟩), .agg P] w' fun e w'' => e = .returned (.pointer (some (slotOf ⟨a, ao, none⟩ t (fp t p)))) ∧ Fr No w' w'') := fun w' hf => by rw [← hP0]; exact findL p hp t a ao w' (hit.1.no hf) hit.2.1 (hf.cell hit.2.2)
  have HSC : Hid (∀ w', Fr No w w' → w'.cell? (slotOf ⟨a, ao, none⟩ t (fp t p)) = some (rt (sub t (fp t p))) ∧ In 103 50 w' (sub t (fp t p))) := fun w' hf => ⟨slot_cell (hit.1.no hf) hit.2.1 (fp_ok t p) (hf.cell hit.2.2), sub_in (hit.1.no hf)⟩
  have HW : Hid (∀ g q v l r, sub t (fp t p) = .node g q v l r → okP q) := by
    intro g q v l r hs
    refine hit.2.1.ok q ?_
    have hall : ∀ (t : Tr) ds, ∀ x ∈ (sub t ds).all, x ∈ t.all := by
      intro t
      induction t with
      | nil => intro ds x hx; cases ds <;> exact hx
      | node g q v l r ihl ihr =>
        intro ds x hx
        cases ds with
        | nil => exact hx
        | cons d ds =>
          rw [sub] at hx
          refine List.mem_cons_of_mem _ (List.mem_append.2 ?_)
          split at hx
          · exact .inr (ihr ds x hx)
          · exact .inl (ihl ds x hx)
    exact hall t (fp t p) q (by rw [hs]; exact List.mem_cons_self)
  have hb0 := heap_alloc_new w (.cells P 29)
  have hF0 := Fr.alloc No w (.cells P 29)
  have HB := Lib.hid (And.intro hb0 (And.intro hF0 (adr_part hBs hPA)))
  have HGT : Hid (getT t p = getN p (sub t (fp t p))) := rfl
  have HP0 := Lib.hid (And.intro hP0 hp)
  obtain ⟨S, hS⟩ : ∃ S, slotOf ⟨a, ao, none⟩ t (fp t p) = S := ⟨_, rfl⟩
  rw [HGT.out]
  rw [hS] at HFD HSC
  generalize sub t (fp t p) = u at HSC HW HGT ⊢
  have q31 := Tryz.eqGuardType29
  clear hit hP0 hB hPA hb0 hF0 hp ht hao hS HGT
  go_enter Tryz.func39, Tryz.ntmps39
  have t3 := Tryz.underlying3
  have u3 := Tryz.runUnderlying3
  have g3 := Tryz.isAgg3
  have z3 := Tryz.sizeOf3
  have t4 := Tryz.underlying4
  have u4 := Tryz.runUnderlying4
  have g4 := Tryz.isAgg4
  have z4 := Tryz.sizeOf4
  have t9 := Tryz.underlying9
  have u9 := Tryz.runUnderlying9
  have g9 := Tryz.isAgg9
  have z9 := Tryz.sizeOf9
  have t25 := Tryz.underlying25
  have u25 := Tryz.runUnderlying25
  have g25 := Tryz.isAgg25
  have z25 := Tryz.sizeOf25
  have t29 := Tryz.underlying29
  have u29 := Tryz.runUnderlying29
  have g29 := Tryz.isAgg29
  have z29 := Tryz.sizeOf29
  have t50 := Tryz.underlying50
  have u50 := Tryz.runUnderlying50
  have g50 := Tryz.isAgg50
  have z50 := Tryz.sizeOf50
  have t73 := Tryz.underlying73
  have u73 := Tryz.runUnderlying73
  have g73 := Tryz.isAgg73
  have z73 := Tryz.sizeOf73
  have t103 := Tryz.underlying103
  have u103 := Tryz.runUnderlying103
  have g103 := Tryz.isAgg103
  have z103 := Tryz.sizeOf103
  have t101 := Tryz.underlying101
  have u101 := Tryz.runUnderlying101
  have g101 := Tryz.isAgg101
  have z101 := Tryz.sizeOf101
  have t97 := Tryz.underlying97
  have u97 := Tryz.runUnderlying97
  have g97 := Tryz.isAgg97
  have z97 := Tryz.sizeOf97
  have t48 := Tryz.underlying48
  have u48 := Tryz.runUnderlying48
  have g48 := Tryz.isAgg48
  have z48 := Tryz.sizeOf48
  have t100 := Tryz.underlying100
  have u100 := Tryz.runUnderlying100
  have g100 := Tryz.isAgg100
  have z100 := Tryz.sizeOf100
  have t75 := Tryz.underlying75
  have u75 := Tryz.runUnderlying75
  have g75 := Tryz.isAgg75
  have z75 := Tryz.sizeOf75
  have c63 := Tryz.call63
  have c62 := Tryz.call62
  have mixed : Tryz.prog.follows .mixedOrders = true := by kernel_rfl
  obtain ⟨k30, hk30⟩ : ∃ k, k = 17 := ⟨_, rfl⟩
  rw [← hk30] at z25
  have nk30 : ¬ k30 = 0 := by omega
  have HK25 := Lib.hid hk30
  obtain ⟨k40, hk40⟩ : ∃ k, k = 18 := ⟨_, rfl⟩
  rw [← hk40] at z29
  have nk40 : ¬ k40 = 0 := by omega
  have HK29 := Lib.hid hk40
  have hP : Tryz.prog = PD := rfl
  rw [hP] at t3 u3 g3 z3 t4 u4 g4 z4 t9 u9 g9 z9 t25 u25 g25 z25 t29 u29 g29 z29 t50 u50 g50 z50 t73 u73 g73 z73 t103 u103 g103 z103 t101 u101 g101 z101 t97 u97 g97 z97 t48 u48 g48 z48 t100 u100 g100 z100 t75 u75 g75 z75 c63 c62 mixed q31 ⊢
  have HP := Lib.hid hP.symm
  clear hP hk30 hk40
  have hPk : P.size = k40 := by rw [HK29.out]; exact hPs
  have hBk : B.size = k30 := by rw [HK25.out]; exact hBs
  clear hPs hBs
  have HL : Hid (∀ w', Fr No (w.alloc (.cells P 29)) w' → Fr No (w.alloc (.cells P 29)) w' ∧ Sem.run PD (loadCellsFrom ⟨w.heap.size, 0, none⟩ 0 k40 #[]) w' = .ok P w' ∧ Sem.run PD (loadCellsFrom ⟨w.heap.size, 0, none⟩ 0 k30 #[]) w' = .ok B w' ∧ w'.cell? S = some (rt u)) := fun w' hf => ⟨hf, load_block (hf.keep HB.out.1) hPk (fun j v hv => by simpa using hv), load_block (hf.keep HB.out.1) hBk HB.out.2.2, (HSC.out w' (HB.out.2.1.trans hf)).1⟩
  have f1 := HL.out _ (Fr.drew No _)
  go_upto_region 1 with fail
  go_region_held3 (fun w' => Fr No (w.alloc (.cells P 29)) w' ∧ Sem.run PD (loadCellsFrom ⟨w.heap.size, 0, none⟩ 0 k40 #[]) w' = .ok P w' ∧ Sem.run PD (loadCellsFrom ⟨w.heap.size, 0, none⟩ 0 k30 #[]) w' = .ok B w' ∧ w'.cell? S = some (rt u)) (first | assumption | exact HL.out _ K3 | exact HL.out _ K4) (first | (go_at_call 63; go_loud (refine (at_prog HP.out (HRT.out _)).mono ?_; rintro e w3 ⟨rfl, hf3⟩; have K3 : Fr No (w.alloc (.cells P 29)) w3 := Fr.trans (And.left (by assumption)) hf3)) | (go_at_call 62; go_loud (refine (at_prog HP.out (HFD.out _ (HB.out.2.1.trans (And.left (by assumption))))).mono ?_; rintro e w4 ⟨rfl, hf4⟩; have K4 : Fr No (w.alloc (.cells P 29)) w4 := Fr.trans (And.left (by assumption)) hf4)))
  have K0 : Fr No w w4 := HB.out.2.1.trans K4
  have HI4 := Lib.hid (HSC.out w4 K0).2
  have HKK := Lib.hid K0
  clear hf3 K3 hf4 f1 K0 HFD HRT
  cases u with
  | nil =>
    rw [show rt Tr.nil = .pointer none from rfl]
    go_wp2_with fail
    go_quiet (fail)
    go_wp2_with fail
    go_ret2
    exact ⟨rfl, HKK.out.trans (Fr.drewN _ _ _)⟩
  | node g q v l r =>
    have hq := HW.out g q v l r rfl
    obtain ⟨K, hK, -, -, hKs, -, -⟩ := pfx_letter q.b q.xs q.n hq.1
    have hKk : K.size = k40 := by rw [HK29.out]; exact hKs
    have lq1 : ∀ m, Sem.run PD (loadCellsFrom ⟨g, 0, none⟩ 0 k40 #[]) (w4.drewN m) = .ok K (w4.drewN m) := fun m => load_block ((Fr.drewN No w4 m).keep HI4.out.1) hKk (fun j u hu => cellsOf_pfx j u (by rw [hK]; exact hu))
    have lq2 := fun m => (HL.out (w4.drewN m) (K4.trans (Fr.drewN _ _ _))).2.1
    have lq3 : w4.cell? ⟨g, 18, none⟩ = some (vp v) := cell_of HI4.out.1 (cellsOf_at hq.1 v l r).1
    have hEQ : ∀ w', Sem.run PD (Op.equalIn 10000 29 (.agg K) (.agg P)) w' = .ok (decide (q = p)) w' := fun w' => by
      rw [HP.out, ← hK, ← HP0.out.1, pfx_eq q.n p.n hq.1 HP0.out.2 w']
      congr 1
      exact decide_eq_decide.2 Px.eq_iff
    have HGN : Hid (getN p (.node g q v l r) = if q = p then v else none) := rfl
    rw [show rt (Tr.node g q v l r) = .pointer (some ⟨g, 0, none⟩) from rfl]
    clear hK hKs hq K4
    by_cases hqp : q = p
    · rw [decide_eq_true hqp] at hEQ
      rw [if_pos hqp] at HGN
      clear hqp
      cases v with
      | none =>
        rw [show vp none = .pointer none from rfl] at lq3
        go_wp2_with fail
        go_quiet (fail)
        go_wp2_with fail
        go_ret2
        exact ⟨by rw [HGN.out]; rfl, HKK.out.trans (Fr.drewN _ _ _)⟩
      | some ux =>
        obtain ⟨vb, x⟩ := ux
        rw [show vp (some (vb, x)) = .pointer (some ⟨vb, 0, none⟩) from rfl] at lq3
        have lq4 : w4.cell? ⟨vb, 0, none⟩ = some x := cell_of HI4.out.2.1 rfl
        go_wp2_with fail
        go_quiet (fail)
        go_wp2_with fail
        go_ret2
        exact ⟨by rw [HGN.out]; rfl, HKK.out.trans (Fr.drewN _ _ _)⟩
    · rw [decide_eq_false hqp] at hEQ
      rw [if_neg hqp] at HGN
      clear hqp
      go_wp2_with fail
      go_quiet (fail)
      go_wp2_with fail
      go_ret2
      exact ⟨by rw [HGN.out]; rfl, HKK.out.trans (Fr.drewN _ _ _)⟩
end Go.Proofs.YtnadendhboiliaaGreat
namespace Go.Proofs.YtnadendhboiliaaGreat
open Go.ChangeShapes Go.WideShapes Go.ChangeAt Go.RowKit
set_option linter.unusedVariables false

theorem getSL {w : World} {a : Nat} {L : List (Px × Value)} {X : Nat → Prop} (hS : StL w a L X) (p : Px) (hp : Bytes p.xs) :
    Calls Tryz.prog 39 #[.pointer (some ⟨a, 0, none⟩), .agg (pfx p.b p.xs p.n).toArray] w fun e w' => e = .returned (.tuple #[(valL L p).getD (.slice none 0 0), .bool (valL L p).isSome]) ∧ Fr No w w' := by
  obtain ⟨t4, t6, hT, rfl, -⟩ := hS
  have h := getL p hp a t4 t6 w hT
  have hv := get_val hT p
  unfold mine at hv
  rw [← hv]
  cases hg : getT (if p.b = true then t6 else t4) p with
  | none => rw [hg] at h; exact h
  | some u => obtain ⟨vb, x⟩ := u; rw [hg] at h; exact h
end Go.Proofs.YtnadendhboiliaaGreat
namespace Go.Proofs.YtnadendhboiliaaGreat
open Go.ChangeShapes Go.WideShapes Go.ChangeAt Go.RowKit
set_option linter.unusedVariables false

theorem elNL : El 111 73 8 := ⟨Tryz.underlying111, ⟨.pointer none, by kernel_rfl, rfl⟩⟩
theorem zeroPL : ∀ w, (zeroValue 73).run Tryz.prog w = .ok (.pointer none) w := by
  intro w
  kernel_rfl

set_option maxHeartbeats 4000000 in
set_option maxRecDepth 100000 in
theorem pathL (c : Bool) (ys : List Nat) (hy : Bytes ys) (a : Nat) (t4 t6 : Tr) (w : World) (hT : Tri 103 50 75 w a t4 t6) :
    Calls Tryz.prog 71 #[.pointer (some ⟨a, 0, none⟩), .agg (adr c ys).toArray] w fun e w' => ∃ ad cp, e = .returned (.slice ad (pth c ys (if c = true then t6 else t4)).length cp) ∧ At w' ad (ptrs (pth c ys (if c = true then t6 else t4))) ∧ Fr No w w' := by
  obtain ⟨t, ht⟩ : ∃ t, (if c = true then t6 else t4) = t := ⟨_, rfl⟩
  have hit : In 103 50 w t ∧ Wf t ∧ w.cell? ⟨a, if c = true then 1 else 0, none⟩ = some (rt t) := by
    cases hpb : c with
    | true => rw [hpb, if_pos rfl] at ht; rw [if_pos rfl, ← ht]; exact ⟨hT.i6, hT.w6, cell_of hT.head rfl⟩
    | false => rw [hpb, if_neg (by decide)] at ht; rw [if_neg (by decide), ← ht]; exact ⟨hT.i4, hT.w4, cell_of hT.head rfl⟩
  rw [ht]
  obtain ⟨B, hB, -, hBs, -⟩ := adr_letter c ys hy
  rw [hB]
  have HRT : Hid (∀ w', Calls Tryz.prog 63 #[.pointer (some ⟨a, 0, none⟩), .agg B] w' fun e w'' => e = .returned (.pointer (some ⟨a, if c = true then 1 else 0, none⟩)) ∧ Fr No w' w'') := fun w' => by rw [← hB]; exact rootL a c ys hy w'
  obtain ⟨ao, hao⟩ : ∃ ao, (if c = true then 1 else 0 : Nat) = ao := ⟨_, rfl⟩
  rw [hao] at hit HRT
  have hb0 := heap_alloc_new w (.cells B 25)
  have hF0 := Fr.alloc No w (.cells B 25)
  have HB := Lib.hid (And.intro hb0 (And.intro hF0 (And.intro hB hy)))
  have HIT := Lib.hid hit
  have HTT : Hid (∃ t', t' = t) := ⟨t, rfl⟩
  have vPN := zeroPL
  clear hit hB hb0 hF0 ht hao hT hy
  go_enter Tryz.func71, Tryz.ntmps71
  have t3 := Tryz.underlying3
  have u3 := Tryz.runUnderlying3
  have g3 := Tryz.isAgg3
  have z3 := Tryz.sizeOf3
  have t4 := Tryz.underlying4
  have u4 := Tryz.runUnderlying4
  have g4 := Tryz.isAgg4
  have z4 := Tryz.sizeOf4
  have t9 := Tryz.underlying9
  have u9 := Tryz.runUnderlying9
  have g9 := Tryz.isAgg9
  have z9 := Tryz.sizeOf9
  have t25 := Tryz.underlying25
  have u25 := Tryz.runUnderlying25
  have g25 := Tryz.isAgg25
  have z25 := Tryz.sizeOf25
  have t29 := Tryz.underlying29
  have u29 := Tryz.runUnderlying29
  have g29 := Tryz.isAgg29
  have z29 := Tryz.sizeOf29
  have t50 := Tryz.underlying50
  have u50 := Tryz.runUnderlying50
  have g50 := Tryz.isAgg50
  have z50 := Tryz.sizeOf50
  have t73 := Tryz.underlying73
  have u73 := Tryz.runUnderlying73
  have g73 := Tryz.isAgg73
  have z73 := Tryz.sizeOf73
  have t103 := Tryz.underlying103
  have u103 := Tryz.runUnderlying103
  have g103 := Tryz.isAgg103
  have z103 := Tryz.sizeOf103
  have t101 := Tryz.underlying101
  have u101 := Tryz.runUnderlying101
  have g101 := Tryz.isAgg101
  have z101 := Tryz.sizeOf101
  have t97 := Tryz.underlying97
  have u97 := Tryz.runUnderlying97
  have g97 := Tryz.isAgg97
  have z97 := Tryz.sizeOf97
  have t48 := Tryz.underlying48
  have u48 := Tryz.runUnderlying48
  have g48 := Tryz.isAgg48
  have z48 := Tryz.sizeOf48
  have t100 := Tryz.underlying100
  have u100 := Tryz.runUnderlying100
  have g100 := Tryz.isAgg100
  have z100 := Tryz.sizeOf100
  have t75 := Tryz.underlying75
  have u75 := Tryz.runUnderlying75
  have g75 := Tryz.isAgg75
  have z75 := Tryz.sizeOf75
  have t111 := Tryz.underlying111
  have u111 := Tryz.runUnderlying111
  have g111 := Tryz.isAgg111
  have z111 := Tryz.sizeOf111
  have c63 := Tryz.call63
  have c81 := Tryz.call81
  have c61 := Tryz.call61
  have mixed : Tryz.prog.follows .mixedOrders = true := by kernel_rfl
  obtain ⟨k30, hk30⟩ : ∃ k, k = 17 := ⟨_, rfl⟩
  rw [← hk30] at z25
  have nk30 : ¬ k30 = 0 := by omega
  have HK25 := Lib.hid hk30
  obtain ⟨k40, hk40⟩ : ∃ k, k = 18 := ⟨_, rfl⟩
  rw [← hk40] at z29
  have nk40 : ¬ k40 = 0 := by omega
  have HK29 := Lib.hid hk40
  have hP : Tryz.prog = PD := rfl
  rw [hP] at t3 u3 g3 z3 t4 u4 g4 z4 t9 u9 g9 z9 t25 u25 g25 z25 t29 u29 g29 z29 t50 u50 g50 z50 t73 u73 g73 z73 t103 u103 g103 z103 t101 u101 g101 z101 t97 u97 g97 z97 t48 u48 g48 z48 t100 u100 g100 z100 t75 u75 g75 z75 t111 u111 g111 z111 c63 c81 c61 mixed vPN ⊢
  have HP := Lib.hid hP.symm
  clear hP hk30 hk40
  have hBk : B.size = k30 := by rw [HK25.out]; exact hBs
  clear hBs
  have HL0 : Hid (∀ w', Fr No (w.alloc (.cells B 25)) w' → Sem.run PD (loadCellsFrom ⟨w.heap.size, 0, none⟩ 0 k30 #[]) w' = .ok B w') := fun w' hf => load_block (hf.keep HB.out.1) hBk (fun j v hv => by simpa using hv)
  have l0 := HL0.out _ (Fr.refl _ _)
  go_wp2_with (first | (go_at_call 63; go_loud (refine (at_prog HP.out (HRT.out _)).mono ?_; rintro e w3 ⟨rfl, hf3⟩; have hc3 := (HB.out.2.1.trans hf3).cell HIT.out.2.2)) | fail)
  obtain ⟨pb, hpb⟩ : ∃ pb, w.heap.size = pb := ⟨_, rfl⟩
  have HW3 : Hid (Fr No w w3 ∧ w3.heap[pb]? = some (.cells B 25 (0, 0)) ∧ In 103 50 w3 t) := ⟨HB.out.2.1.trans hf3, by rw [← hpb]; exact hf3.keep HB.out.1, HIT.out.1.no (HB.out.2.1.trans hf3)⟩
  rw [hpb]
  have HPB := Lib.hid hpb
  clear hf3 hc3 l0 HL0 hpb HRT
  go_loopg [5, 6] (szL t + 1) (fun g s5 s6 wr => ∃ (u : Tr) (ad : Option Addr) (i cp : Nat), s5 = .slice ad i cp ∧ s6 = rt u ∧ szL u < g ∧ Hid (∃ D, D.length = i ∧ (∀ x ∈ u.all, (i : Int) ≤ x.n) ∧ pth c ys t = D ++ pth c ys u ∧ In 103 50 w3 u ∧ Wf u ∧ wr.ownsRow w3.heap.size 73 1 (.slice ad i cp) i (ptrs D) ∧ Fr No w3 wr))
  case atStart => exact ⟨t, none, 0, 0, rfl, rfl, by omega, [], rfl, fun x hx => (HIT.out.2.1.ok x hx).parts.2.1, rfl, HW3.out.2.2, HIT.out.2.1, World.ownsRow_nil _ _ _ _, Fr.refl _ _⟩
  case round =>
    obtain ⟨u, ad, i, cp, rfl, rfl, hug, HR⟩ := hrel
    obtain ⟨D, hD, hxi, hDu, hiu, hwu, hown, hfu⟩ := HR.out
    cases u with
    | nil =>
      have HE : Hid (pth c ys t = D) := by show _ = _; rw [hDu]; exact List.append_nil D
      have HX := Lib.hid (And.intro hown (And.intro hfu hD))
      clear hD hxi hDu hiu hwu hown hfu HR
      rw [show rt Tr.nil = .pointer none from rfl]
      go_wp2_with fail
      go_quiet (fail)
      go_wp2_with fail
      go_ret
      exact ⟨ad, cp, by rw [HE.out, HX.out.2.2]; rfl, by rw [HE.out]; exact (At.own HX.out.1).frNo (Fr.drewN _ _ _), (HW3.out.1.trans HX.out.2.1).trans (Fr.drewN _ _ _)⟩
    | node g q v l r =>
      have hwq : okP q := hwu.1
      obtain ⟨K, hK, -, -, hKs, -, -⟩ := pfx_letter q.b q.xs q.n hwq.1
      have hKk : K.size = k40 := by rw [HK29.out]; exact hKs
      have HL : Hid (∀ w', Fr No w3 w' → Sem.run PD (loadCellsFrom ⟨g, 0, none⟩ 0 k40 #[]) w' = .ok K w' ∧ Sem.run PD (loadCellsFrom ⟨pb, 0, none⟩ 0 k30 #[]) w' = .ok B w') := fun w' hf => ⟨load_block (hf.keep hiu.1) hKk (fun j u hu => cellsOf_pfx j u (by rw [hK]; exact hu)), load_block (hf.keep HW3.out.2.1) hBk (fun j v hv => by simpa using hv)⟩
      have HS : Hid (∀ w', Fr No wr w' → Fr No wr w' ∧ Sem.run PD (loadCellsFrom ⟨g, 0, none⟩ 0 k40 #[]) w' = .ok K w' ∧ Sem.run PD (loadCellsFrom ⟨pb, 0, none⟩ 0 k30 #[]) w' = .ok B w') := fun w' hf => ⟨hf, HL.out w' (hfu.trans hf)⟩
      have HCV : Hid (∀ w', Calls Tryz.prog 61 #[.agg K, .agg B] w' fun e w'' => e = .returned (.bool (has q c ys)) ∧ Fr No w' w'') := fun w' => by rw [← hK, ← HB.out.2.2.1]; exact cont_any q.b c q.xs ys q.n hwq.1 HB.out.2.2.2 w'
      have HV : Hid (∀ w', Fr No w3 w' → w'.cell? ⟨g, 18, none⟩ = some (vp v)) := fun w' hf => cell_of (hf.keep hiu.1) (cellsOf_at hwq.1 v l r).1
      have hcsl := cellsOf_at hwq.1 v l r
      obtain ⟨ch, off, HCH, hsc, hoff⟩ : ∃ (ch : Tr) (off : Nat), Hid ((has q c ys = true → pth c ys (.node g q v l r) = entN g q v ++ pth c ys ch) ∧ (∀ w', Fr No w3 w' → In 103 50 w' ch ∧ w'.cell? ⟨g, off, none⟩ = some (rt ch)) ∧ Wf ch ∧ (∀ x ∈ ch.all, q.n < x.n)) ∧ szL ch < szL (.node g q v l r) ∧ (if sideB q c ys = true then 20 else 19) = off := by
        cases hs : sideB q c ys with
        | true => exact ⟨r, 20, ⟨fun h => by rw [pth, if_pos h, hs, if_pos rfl], fun w' hf => ⟨hiu.2.2.2.no hf, cell_of (hf.keep hiu.1) hcsl.2.2⟩, hwu.2.2.2.2, fun x hx => (hwu.2.2.1 x hx).2.1⟩, by show _ < szL l + szL r + 1; omega, rfl⟩
        | false => exact ⟨l, 19, ⟨fun h => by rw [pth, if_pos h, hs, if_neg (by decide)], fun w' hf => ⟨hiu.2.2.1.no hf, cell_of (hf.keep hiu.1) hcsl.2.1⟩, hwu.2.2.2.1, fun x hx => (hwu.2.1 x hx).2.1⟩, by show _ < szL l + szL r + 1; omega, rfl⟩
      have HSD : Hid (∀ w', Fr No w3 w' → Calls Tryz.prog 81 #[.pointer (some ⟨g, 0, none⟩), .agg B] w' fun e w'' => e = .returned (.pointer (some ⟨g, off, none⟩)) ∧ Fr No w' w'') := fun w' hf => by rw [← HB.out.2.2.1, ← hoff]; exact sdL g q v l r c ys hwq HB.out.2.2.2 w' (hf.keep hiu.1)
      have HQI : Hid ((i : Int) ≤ q.n ∧ q.n ≤ 128) := ⟨hxi q List.mem_cons_self, ok_le hwq⟩
      have hi128 : i ≤ 128 := by have := HQI.out; omega
      have HX := Lib.hid (And.intro hown (And.intro hfu (And.intro hD hDu)))
      have f2 := HS.out _ (Fr.drew No wr)
      rw [show rt (Tr.node g q v l r) = .pointer (some ⟨g, 0, none⟩) from rfl]
      clear hK hKs hwq hcsl hoff hiu hwu hown hfu hD hxi hDu HR
      cases hcv : has q c ys
      · have HE : Hid (pth c ys t = D) := by show _ = _; rw [HX.out.2.2.2, pth, if_neg (by rw [hcv]; decide)]; exact List.append_nil D
        rw [hcv] at HCV
        clear hcv
        go_wp2_with fail
        go_region_held3 (fun w' => Fr No wr w' ∧ Sem.run PD (loadCellsFrom ⟨g, 0, none⟩ 0 k40 #[]) w' = .ok K w' ∧ Sem.run PD (loadCellsFrom ⟨pb, 0, none⟩ 0 k30 #[]) w' = .ok B w') (first | assumption | exact HS.out _ (Fr.trans (And.left (by assumption)) hf3)) (first | (go_at_call 61; go_loud (refine (at_prog HP.out (HCV.out _)).mono ?_; rintro e w4 ⟨rfl, hf3⟩; have K3 : Fr No wr w4 := Fr.trans (And.left (by assumption)) hf3)))
        go_wp2_with fail
        go_ret
        exact ⟨ad, cp, by rw [HE.out, HX.out.2.2.1]; rfl, by rw [HE.out]; exact (At.own HX.out.1).frNo K3, (HW3.out.1.trans HX.out.2.1).trans K3⟩
      · have HE := Lib.hid (HCH.out.1 hcv)
        rw [hcv] at HCV
        clear hcv
        go_wp2_with fail
        go_region_held3 (fun w' => Fr No wr w' ∧ Sem.run PD (loadCellsFrom ⟨g, 0, none⟩ 0 k40 #[]) w' = .ok K w' ∧ Sem.run PD (loadCellsFrom ⟨pb, 0, none⟩ 0 k30 #[]) w' = .ok B w') (first | assumption | exact HS.out _ (Fr.trans (And.left (by assumption)) hf3)) (first | (go_at_call 61; go_loud (refine (at_prog HP.out (HCV.out _)).mono ?_; rintro e w4 ⟨rfl, hf3⟩; have K3 : Fr No wr w4 := Fr.trans (And.left (by assumption)) hf3)))
        have KT := HX.out.2.1.trans K3
        have lv := HV.out w4 KT
        cases v with
        | none =>
          rw [show vp none = .pointer none from rfl] at lv
          have lb := (HL.out w4 KT).2
          go_wp2_with (first | (go_at_call 81; go_loud (refine (at_prog HP.out (HSD.out _ KT)).mono ?_; rintro e w5 ⟨rfl, hf5⟩; have K5 := KT.trans hf5; have lc := (HCH.out.2.1 w5 K5).2)) | fail)
          go_roundg (szL (Tr.node g q none l r))
          case measure => exact hug
          case rel => exact ⟨ch, ad, i, cp, rfl, rfl, hsc, D, HX.out.2.2.1, fun x hx => by have h1 := HCH.out.2.2.2 x hx; have h2 := HQI.out.1; omega, by rw [HX.out.2.2.2, HE.out]; rfl, (HCH.out.2.1 w3 (Fr.refl _ _)).1, HCH.out.2.2.1, row_frNo HX.out.1 (K3.trans hf5), K5⟩
        | some ux =>
          obtain ⟨vb, x⟩ := ux
          rw [show vp (some (vb, x)) = .pointer (some ⟨vb, 0, none⟩) from rfl] at lv
          have hbk := heap_alloc_new w4 (.cells #[.pointer (some ⟨g, 0, none⟩)] 73)
          have hbf := Fr.alloc No w4 (.cells #[.pointer (some ⟨g, 0, none⟩)] 73)
          have HBB := Lib.hid (And.intro hbk (And.intro (K3.trans hbf) (HX.out.2.1.trans (K3.trans hbf))))
          clear hbk hbf
          have HLw := Lib.hid HL.out
          go_wp2_with (first | (at_builtin; go_loud (refine wpList_append_vals elNL rfl (.tmp 32) (.tmp 34) rfl w3.heap.size _ i _ rfl (row_frNo HX.out.1 HBB.out.2.1) (some ⟨w4.heap.size, 0, none⟩) 1 1 (ptrs [(g, q, vb, x)]) rfl (ptrs_one _) rfl (At.block HBB.out.1) (fun h => by cases h) (by unfold maxLen; omega) (by omega) (Nat.le_trans HX.out.2.1.size (K3.trans (Fr.alloc No w4 (.cells #[.pointer (some ⟨g, 0, none⟩)] 73))).size) ?_; intro a6 c6 w6 hown6 hg6 hat6; have H6 : Hid (w6.ownsRow w3.heap.size 73 1 (.slice a6 (i + 1) c6) (i + 1) (ptrs (D ++ [(g, q, vb, x)])) ∧ Fr No w3 w6) := ⟨(by rw [ptrs_append]; exact hown6), HBB.out.2.2.own_grown (row_frNo HX.out.1 HBB.out.2.1) (Nat.le_refl _) hg6⟩; clear hown6 hg6 hat6; have lb6 := (HLw.out w6 H6.out.2).2)) | (go_at_call 81; go_loud (refine (at_prog HP.out (HSD.out _ H6.out.2)).mono ?_; rintro e w7 ⟨rfl, hf7⟩; have K7 := H6.out.2.trans hf7; have lc := (HCH.out.2.1 w7 K7).2)) | fail)
          go_roundg (szL (Tr.node g q (some (vb, x)) l r))
          case measure => exact hug
          case rel => exact ⟨ch, a6, i + 1, c6, rfl, rfl, hsc, D ++ [(g, q, vb, x)], by rw [List.length_append, HX.out.2.2.1]; rfl, fun y hy => by have h1 := HCH.out.2.2.2 y hy; have h2 := HQI.out.1; omega, by rw [HX.out.2.2.2, HE.out, List.append_assoc]; rfl, (HCH.out.2.1 w3 (Fr.refl _ _)).1, HCH.out.2.2.1, row_frNo H6.out.1 hf7, K7⟩
end Go.Proofs.YtnadendhboiliaaGreat
namespace Go.Proofs.YtnadendhboiliaaGreat
open Go.ChangeShapes Go.WideShapes Go.ChangeAt Go.RowKit
set_option linter.unusedVariables false

set_option maxHeartbeats 4000000 in
set_option maxRecDepth 100000 in
theorem matchesL (c : Bool) (ys : List Nat) (hy : Bytes ys) (a : Nat) (t4 t6 : Tr) (w : World) (hT : Tri 103 50 75 w a t4 t6) :
    Calls Tryz.prog 48 #[.pointer (some ⟨a, 0, none⟩), .agg (adr c ys).toArray] w fun e w' => ∃ ad cp, e = .returned (.slice ad (pth c ys (if c = true then t6 else t4)).length cp) ∧ w'.ownsRow w.heap.size 29 18 (.slice ad (pth c ys (if c = true then t6 else t4)).length cp) (pth c ys (if c = true then t6 else t4)).length (flatP ((pth c ys (if c = true then t6 else t4)).map fun e => e.2.1)) ∧ Fr No w w' := by
  obtain ⟨L, hL⟩ : ∃ L, pth c ys (if c = true then t6 else t4) = L := ⟨_, rfl⟩
  have HPT : Hid (∀ w', Fr No w w' → Calls Tryz.prog 71 #[.pointer (some ⟨a, 0, none⟩), .agg (adr c ys).toArray] w' fun e w'' => ∃ ad cp, e = .returned (.slice ad L.length cp) ∧ At w'' ad (ptrs L) ∧ Fr No w' w'') := fun w' hf => by
    have h := pathL c ys hy a t4 t6 w' (hT.no hf)
    rw [hL] at h
    exact h
  have HIN : Hid (∀ e ∈ L, ∃ l r, w.heap[e.1]? = some (.cells (cellsOf e.2.1 (some (e.2.2.1, e.2.2.2)) l r).toArray 103 (0, 0)) ∧ w.heap[e.2.2.1]? = some (.cells #[e.2.2.2] 50 (0, 0)) ∧ okP e.2.1) := by
    rw [← hL]
    cases c with
    | true => rw [if_pos rfl]; exact pth_in hT.i6 hT.w6
    | false => rw [if_neg (by decide)]; exact pth_in hT.i4 hT.w4
  have hL129 : L.length ≤ 129 := by
    rw [← hL]
    cases c with
    | true => rw [if_pos rfl]; exact pth_129 hT.w6
    | false => rw [if_neg (by decide)]; exact pth_129 hT.w4
  rw [hL]
  obtain ⟨Z, hZ⟩ : ∃ Z : Array Value, noP.toArray = Z := ⟨_, rfl⟩
  have v31 := zero29
  rw [hZ] at v31
  have hz18 : Z.size = 18 := by rw [← hZ]; rfl
  obtain ⟨B, hB, -, hBs, -⟩ := adr_letter c ys hy
  rw [hB] at HPT ⊢
  have HB := Lib.hid (And.intro (heap_alloc_new w (.cells B 25)) (Fr.alloc No w (.cells B 25)))
  have HZ := Lib.hid hZ
  obtain ⟨ln, hln⟩ : ∃ ln, L.length = ln := ⟨_, rfl⟩
  rw [hln] at HPT hL129 ⊢
  have HLN := Lib.hid hln
  clear hB hT hL hy hZ hln
  go_enter Tryz.func48, Tryz.ntmps48
  have t3 := Tryz.underlying3
  have u3 := Tryz.runUnderlying3
  have g3 := Tryz.isAgg3
  have z3 := Tryz.sizeOf3
  have t4 := Tryz.underlying4
  have u4 := Tryz.runUnderlying4
  have g4 := Tryz.isAgg4
  have z4 := Tryz.sizeOf4
  have t9 := Tryz.underlying9
  have u9 := Tryz.runUnderlying9
  have g9 := Tryz.isAgg9
  have z9 := Tryz.sizeOf9
  have t25 := Tryz.underlying25
  have u25 := Tryz.runUnderlying25
  have g25 := Tryz.isAgg25
  have z25 := Tryz.sizeOf25
  have t29 := Tryz.underlying29
  have u29 := Tryz.runUnderlying29
  have g29 := Tryz.isAgg29
  have z29 := Tryz.sizeOf29
  have t50 := Tryz.underlying50
  have u50 := Tryz.runUnderlying50
  have g50 := Tryz.isAgg50
  have z50 := Tryz.sizeOf50
  have t89 := Tryz.underlying89
  have u89 := Tryz.runUnderlying89
  have g89 := Tryz.isAgg89
  have z89 := Tryz.sizeOf89
  have t73 := Tryz.underlying73
  have u73 := Tryz.runUnderlying73
  have g73 := Tryz.isAgg73
  have z73 := Tryz.sizeOf73
  have t103 := Tryz.underlying103
  have u103 := Tryz.runUnderlying103
  have g103 := Tryz.isAgg103
  have z103 := Tryz.sizeOf103
  have t101 := Tryz.underlying101
  have u101 := Tryz.runUnderlying101
  have g101 := Tryz.isAgg101
  have z101 := Tryz.sizeOf101
  have t97 := Tryz.underlying97
  have u97 := Tryz.runUnderlying97
  have g97 := Tryz.isAgg97
  have z97 := Tryz.sizeOf97
  have t48 := Tryz.underlying48
  have u48 := Tryz.runUnderlying48
  have g48 := Tryz.isAgg48
  have z48 := Tryz.sizeOf48
  have t100 := Tryz.underlying100
  have u100 := Tryz.runUnderlying100
  have g100 := Tryz.isAgg100
  have z100 := Tryz.sizeOf100
  have t75 := Tryz.underlying75
  have u75 := Tryz.runUnderlying75
  have g75 := Tryz.isAgg75
  have z75 := Tryz.sizeOf75
  have t111 := Tryz.underlying111
  have u111 := Tryz.runUnderlying111
  have g111 := Tryz.isAgg111
  have z111 := Tryz.sizeOf111
  have c71 := Tryz.call71
  have mixed : Tryz.prog.follows .mixedOrders = true := by kernel_rfl
  obtain ⟨k30, hk30⟩ : ∃ k, k = 17 := ⟨_, rfl⟩
  rw [← hk30] at z25
  have nk30 : ¬ k30 = 0 := by omega
  have HK25 := Lib.hid hk30
  obtain ⟨k40, hk40⟩ : ∃ k, k = 18 := ⟨_, rfl⟩
  rw [← hk40] at z29
  have nk40 : ¬ k40 = 0 := by omega
  have HK29 := Lib.hid hk40
  have hP : Tryz.prog = PD := rfl
  rw [hP] at t3 u3 g3 z3 t4 u4 g4 z4 t9 u9 g9 z9 t25 u25 g25 z25 t29 u29 g29 z29 t50 u50 g50 z50 t89 u89 g89 z89 t73 u73 g73 z73 t103 u103 g103 z103 t101 u101 g101 z101 t97 u97 g97 z97 t48 u48 g48 z48 t100 u100 g100 z100 t75 u75 g75 z75 t111 u111 g111 z111 c71 mixed v31 ⊢
  have HP := Lib.hid hP.symm
  clear hP hk30 hk40
  have hBk : B.size = k30 := by rw [HK25.out]; exact hBs
  have hZk : Z.size = k40 := by rw [HK29.out]; exact hz18
  have hfold : ∀ K : Array Value, K.size = k40 → Array.foldl (fun (cs : Array Value) (x : Value × Nat) => cs.setIfInBounds x.snd x.fst) (Array.map (fun x => Z[x % k40]!) (Array.range k40)) K.zipIdx 0 k40 = K := fun K hK => fold_set _ _ (by simp) hK
  have hkb : ¬ 16777216 < k40 := by rw [HK29.out]; decide
  clear hBs hz18
  have l0 : Sem.run PD (loadCellsFrom ⟨w.heap.size, 0, none⟩ 0 k30 #[]) (w.alloc (.cells B 25)) = .ok B (w.alloc (.cells B 25)) := load_block HB.out.1 hBk (fun j v hv => by simpa using hv)
  go_wp2_with (first | (go_at_call 71; go_loud (refine (at_prog HP.out (HPT.out _ HB.out.2)).mono ?_; rintro e w3 ⟨ad, cp, rfl, hat, hf3⟩; have H3 := Lib.hid (And.intro hat (HB.out.2.trans hf3)); clear hat hf3)) | fail)
  clear l0
  go_loopg [5, 12] (ln + 1) (fun g s5 s12 wr => ∃ (i : Nat) (a5 : Option Addr) (c5 : Nat), s5 = .slice a5 i c5 ∧ s12 = .int .i64 i ∧ i ≤ ln ∧ ln - i < g ∧ Hid (wr.ownsRow w3.heap.size 29 18 (.slice a5 i c5) i (flatP ((L.take i).map fun e => e.2.1)) ∧ Fr No w3 wr))
  case atStart => exact ⟨0, none, 0, rfl, by go_num, by omega, by omega, by rw [List.take_zero]; exact World.ownsRow_nil _ _ _ _, Fr.refl _ _⟩
  case round =>
    obtain ⟨i, a5, c5, rfl, rfl, hil, hig, HR⟩ := hrel
    by_cases hlt : i < ln
    · obtain ⟨e0, he0⟩ : ∃ e0, L[i]? = some e0 := ⟨_, List.getElem?_eq_getElem (by rw [HLN.out]; exact hlt)⟩
      obtain ⟨g, q, vb, x⟩ := e0
      obtain ⟨l, r, hg, -, hq⟩ := HIN.out _ (List.mem_of_getElem? he0)
      have hgn : (ptrs L)[i]? = some (.pointer (some ⟨g, 0, none⟩)) := by simp [ptrs, he0]
      obtain ⟨bb, bo, rfl, hcl⟩ := (H3.out.1.frNo HR.out.2) _ _ hgn
      obtain ⟨K, hK, -, -, hKs, -, hK1⟩ := pfx_letter q.b q.xs q.n hq.1
      have hKk : K.size = k40 := by rw [HK29.out]; exact hKs
      have lg : Sem.run PD (loadCellsFrom ⟨g, 0, none⟩ 0 k40 #[]) wr = .ok K wr := load_block ((H3.out.2.trans HR.out.2).keep hg) hKk (fun j u hu => cellsOf_pfx j u (by rw [hK]; exact hu))
      have q1 : (0 : Int) ≤ (i : Int) := by omega
      have q2 : (i : Int) < (ln : Int) := by omega
      have HT : Hid (((L.take (i + 1)).map fun e => e.2.1) = ((L.take i).map fun e => e.2.1) ++ [q]) := by
        show _ = _
        rw [List.take_add_one, he0]
        simp
      have HC := Lib.hid (And.intro hK (And.intro hK1 hKs))
      have hfK := hfold K hKk
      have hbk := heap_alloc_new wr (.cells K 29)
      have hbf := Fr.alloc No wr (.cells K 29)
      have HBB := Lib.hid (And.intro hbk (And.intro hbf (HR.out.2.trans hbf)))
      have HW := Lib.hid H3.out.2
      clear he0 hg hq hgn hK hKs hK1 hbk hbf hfold
      go_wp2_with (first | (at_builtin; go_loud (refine wpList_append_w ewP rfl (.tmp 16) (.tmp 21) rfl w3.heap.size _ i _ rfl (row_frNo HR.out.1 HBB.out.2.1) ⟨wr.heap.size, 0, none⟩ 1 (pfx q.b q.xs q.n) rfl (pfx_one _ _ _) (by have h := HC.out.2.2; rw [← HC.out.1, List.size_toArray] at h; exact h) (At.block (by rw [HC.out.1]; exact HBB.out.1)) (by omega) (by omega) (Nat.le_trans HR.out.2.size HBB.out.2.1.size) ?_; intro a6 c6 w6 hown6 hg6 hat6; have H6 : Hid (w6.ownsRow w3.heap.size 29 18 (.slice a6 (i + 1) c6) (i + 1) (flatP ((L.take (i + 1)).map fun e => e.2.1)) ∧ Fr No w3 w6) := ⟨by rw [HT.out, flatP_append]; simpa [flatP] using hown6, HBB.out.2.2.own_grown_w (row_frNo HR.out.1 HBB.out.2.1) (Nat.le_refl _) hg6⟩; clear hown6 hg6 hat6)) | fail)
      go_roundg (ln - i)
      case measure => exact hig
      case rel => exact ⟨i + 1, a6, c6, rfl, by go_num, by omega, by omega, H6.out.1, H6.out.2⟩
    · obtain rfl : i = ln := by omega
      have q1 : ¬ (i : Int) < (i : Int) := by omega
      go_wp2_with fail
      go_ret
      exact ⟨a5, c5, rfl, by have h := HR.out.1; rw [← HLN.out, List.take_length] at h; rw [← HLN.out]; exact row_base_w h H3.out.2.size, H3.out.2.trans HR.out.2⟩
end Go.Proofs.YtnadendhboiliaaGreat
namespace Go.Proofs.YtnadendhboiliaaGreat
open Go.ChangeShapes Go.WideShapes Go.ChangeAt Go.RowKit
set_option linter.unusedVariables false

theorem matchesSL {w : World} {a : Nat} {L : List (Px × Value)} {X : Nat → Prop} (hS : StL w a L X) (c : Bool) (ys : List Nat) (hy : Bytes ys) :
    Calls Tryz.prog 48 #[.pointer (some ⟨a, 0, none⟩), .agg (adr c ys).toArray] w fun e w' => ∃ ad cp, e = .returned (.slice ad (inL L c ys).length cp) ∧ w'.ownsRow w.heap.size 29 18 (.slice ad (inL L c ys).length cp) (inL L c ys).length (flatP ((inL L c ys).map fun e => e.1)) ∧ Fr No w w' := by
  obtain ⟨t4, t6, hT, rfl, -⟩ := hS
  have h := matchesL c ys hy a t4 t6 w hT
  have h1 := pth_inL hT (c := c) hy
  have h2 : (pth c ys (if c = true then t6 else t4)).length = (inL (t4.toL ++ t6.toL) c ys).length := by rw [← h1, List.length_map]
  have h3 : (pth c ys (if c = true then t6 else t4)).map (fun e => e.2.1) = (inL (t4.toL ++ t6.toL) c ys).map fun e => e.1 := by rw [← h1, List.map_map]; rfl
  rw [h2, h3] at h
  exact h
end Go.Proofs.YtnadendhboiliaaGreat
