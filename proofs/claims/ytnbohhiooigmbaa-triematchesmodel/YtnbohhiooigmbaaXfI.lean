/-
  CONTRACT of Matches of package trie at one value type, over this seat's translation.
  Conditions: the trie lies in memory.
-/
import Derived.Test.YtnbohhiooigmbaaXdI
import Derived.Test.YtnbohhiooigmbaaWd
namespace Go.Proofs.Ytnbohhiooigmbaa
open Go.ChangeShapes Go.WideShapes Go.ChangeAt Go.RowKit
set_option linter.unusedVariables false

set_option maxHeartbeats 4000000 in
set_option maxRecDepth 100000 in
theorem matchesI (c : Bool) (ys : List Nat) (hy : Bytes ys) (a : Nat) (t4 t6 : Tr) (w : World) (hT : Tri 81 3 75 w a t4 t6) :
    Calls Try.prog 26 #[.pointer (some ⟨a, 0, none⟩), .agg (adr c ys).toArray] w fun e w' => ∃ ad cp, e = .returned (.slice ad (pth c ys (if c = true then t6 else t4)).length cp) ∧ w'.ownsRow w.heap.size 31 18 (.slice ad (pth c ys (if c = true then t6 else t4)).length cp) (pth c ys (if c = true then t6 else t4)).length (flatP ((pth c ys (if c = true then t6 else t4)).map fun e => e.2.1)) ∧ Fr No w w' := by
  obtain ⟨L, hL⟩ : ∃ L, pth c ys (if c = true then t6 else t4) = L := ⟨_, rfl⟩
  have HPT : Hid (∀ w', Fr No w w' → Calls Try.prog 53 #[.pointer (some ⟨a, 0, none⟩), .agg (adr c ys).toArray] w' fun e w'' => ∃ ad cp, e = .returned (.slice ad L.length cp) ∧ At w'' ad (ptrs L) ∧ Fr No w' w'') := fun w' hf => by
    have h := pathI c ys hy a t4 t6 w' (hT.no hf)
    rw [hL] at h
    exact h
  have HIN : Hid (∀ e ∈ L, ∃ l r, w.heap[e.1]? = some (.cells (cellsOf e.2.1 (some (e.2.2.1, e.2.2.2)) l r).toArray 81 (0, 0)) ∧ w.heap[e.2.2.1]? = some (.cells #[e.2.2.2] 3 (0, 0)) ∧ okP e.2.1) := by
    rw [← hL]
    cases c with
    | true => rw [if_pos rfl]; exact pth_in hT.i6 hT.w6
    | false => rw [if_neg (by decide)]; exact pth_in hT.i4 hT.w4
  have hL129 : L.length ≤ 129 := by
    rw [← hL]
    cases c with
    | true => rw [if_pos rfl]; exact pth_129 hT.w6
    | false => rw [if_neg (by decide)]; exact pth_129 hT.w4
  rw [hL]
  obtain ⟨Z, hZ⟩ : ∃ Z : Array Value, noP.toArray = Z := ⟨_, rfl⟩
  have v31 := zero31
  rw [hZ] at v31
  have hz18 : Z.size = 18 := by rw [← hZ]; rfl
  obtain ⟨B, hB, -, hBs, -⟩ := adr_letter c ys hy
  rw [hB] at HPT ⊢
  have HB := Lib.hid (And.intro (heap_alloc_new w (.cells B 29)) (Fr.alloc No w (.cells B 29)))
  have HZ := Lib.hid hZ
  obtain ⟨ln, hln⟩ : ∃ ln, L.length = ln := ⟨_, rfl⟩
  rw [hln] at HPT hL129 ⊢
  have HLN := Lib.hid hln
  clear hB hT hL hy hZ hln
  go_enter Try.func26, Try.ntmps26
  have t3 := Try.underlying3
  have u3 := Try.runUnderlying3
  have g3 := Try.isAgg3
  have z3 := Try.sizeOf3
  have t4 := Try.underlying4
  have u4 := Try.runUnderlying4
  have g4 := Try.isAgg4
  have z4 := Try.sizeOf4
  have t9 := Try.underlying9
  have u9 := Try.runUnderlying9
  have g9 := Try.isAgg9
  have z9 := Try.sizeOf9
  have t29 := Try.underlying29
  have u29 := Try.runUnderlying29
  have g29 := Try.isAgg29
  have z29 := Try.sizeOf29
  have t31 := Try.underlying31
  have u31 := Try.runUnderlying31
  have g31 := Try.isAgg31
  have z31 := Try.sizeOf31
  have t47 := Try.underlying47
  have u47 := Try.runUnderlying47
  have g47 := Try.isAgg47
  have z47 := Try.sizeOf47
  have t73 := Try.underlying73
  have u73 := Try.runUnderlying73
  have g73 := Try.isAgg73
  have z73 := Try.sizeOf73
  have t81 := Try.underlying81
  have u81 := Try.runUnderlying81
  have g81 := Try.isAgg81
  have z81 := Try.sizeOf81
  have t79 := Try.underlying79
  have u79 := Try.runUnderlying79
  have g79 := Try.isAgg79
  have z79 := Try.sizeOf79
  have t84 := Try.underlying84
  have u84 := Try.runUnderlying84
  have g84 := Try.isAgg84
  have z84 := Try.sizeOf84
  have t24 := Try.underlying24
  have u24 := Try.runUnderlying24
  have g24 := Try.isAgg24
  have z24 := Try.sizeOf24
  have t78 := Try.underlying78
  have u78 := Try.runUnderlying78
  have g78 := Try.isAgg78
  have z78 := Try.sizeOf78
  have t75 := Try.underlying75
  have u75 := Try.runUnderlying75
  have g75 := Try.isAgg75
  have z75 := Try.sizeOf75
  have t97 := Try.underlying97
  have u97 := Try.runUnderlying97
  have g97 := Try.isAgg97
  have z97 := Try.sizeOf97
  have c53 := Try.call53
  have mixed : Try.prog.follows .mixedOrders = true := by kernel_rfl
  obtain ⟨k30, hk30⟩ : ∃ k, k = 17 := ⟨_, rfl⟩
  rw [← hk30] at z29
  have nk30 : ¬ k30 = 0 := by omega
  have HK29 := Lib.hid hk30
  obtain ⟨k40, hk40⟩ : ∃ k, k = 18 := ⟨_, rfl⟩
  rw [← hk40] at z31
  have nk40 : ¬ k40 = 0 := by omega
  have HK31 := Lib.hid hk40
  have hP : Try.prog = PD := rfl
  rw [hP] at t3 u3 g3 z3 t4 u4 g4 z4 t9 u9 g9 z9 t29 u29 g29 z29 t31 u31 g31 z31 t47 u47 g47 z47 t73 u73 g73 z73 t81 u81 g81 z81 t79 u79 g79 z79 t84 u84 g84 z84 t24 u24 g24 z24 t78 u78 g78 z78 t75 u75 g75 z75 t97 u97 g97 z97 c53 mixed v31 ⊢
  have HP := Lib.hid hP.symm
  clear hP hk30 hk40
  have hBk : B.size = k30 := by rw [HK29.out]; exact hBs
  have hZk : Z.size = k40 := by rw [HK31.out]; exact hz18
  have hfold : ∀ K : Array Value, K.size = k40 → Array.foldl (fun (cs : Array Value) (x : Value × Nat) => cs.setIfInBounds x.snd x.fst) (Array.map (fun x => Z[x % k40]!) (Array.range k40)) K.zipIdx 0 k40 = K := fun K hK => fold_set _ _ (by simp) hK
  have hkb : ¬ 16777216 < k40 := by rw [HK31.out]; decide
  clear hBs hz18
  have l0 : Sem.run PD (loadCellsFrom ⟨w.heap.size, 0, none⟩ 0 k30 #[]) (w.alloc (.cells B 29)) = .ok B (w.alloc (.cells B 29)) := load_block HB.out.1 hBk (fun j v hv => by simpa using hv)
  go_wp2_with (first | (go_at_call 53; go_loud (refine (at_prog HP.out (HPT.out _ HB.out.2)).mono ?_; rintro e w3 ⟨ad, cp, rfl, hat, hf3⟩; have H3 := Lib.hid (And.intro hat (HB.out.2.trans hf3)); clear hat hf3)) | fail)
  clear l0
  go_loopg [5, 12] (ln + 1) (fun g s5 s12 wr => ∃ (i : Nat) (a5 : Option Addr) (c5 : Nat), s5 = .slice a5 i c5 ∧ s12 = .int .i64 i ∧ i ≤ ln ∧ ln - i < g ∧ Hid (wr.ownsRow w3.heap.size 31 18 (.slice a5 i c5) i (flatP ((L.take i).map fun e => e.2.1)) ∧ Fr No w3 wr))
  case atStart => exact ⟨0, none, 0, rfl, by go_num, by omega, by omega, by rw [List.take_zero]; exact World.ownsRow_nil _ _ _ _, Fr.refl _ _⟩
  case round =>
    obtain ⟨i, a5, c5, rfl, rfl, hil, hig, HR⟩ := hrel
    by_cases hlt : i < ln
    · obtain ⟨e0, he0⟩ : ∃ e0, L[i]? = some e0 := ⟨_, List.getElem?_eq_getElem (by rw [HLN.out]; exact hlt)⟩
      obtain ⟨g, q, vb, x⟩ := e0
      obtain ⟨l, r, hg, -, hq⟩ := HIN.out _ (List.mem_of_getElem? he0)
      have hgn : (ptrs L)[i]? = some (.pointer (some ⟨g, 0, none⟩)) := by simp [ptrs, he0]
      obtain ⟨bb, bo, rfl, hcl⟩ := (H3.out.1.frNo HR.out.2) _ _ hgn
      obtain ⟨K, hK, -, -, hKs, -, hK1⟩ := pfx_letter q.b q.xs q.n hq.1
      have hKk : K.size = k40 := by rw [HK31.out]; exact hKs
      have lg : Sem.run PD (loadCellsFrom ⟨g, 0, none⟩ 0 k40 #[]) wr = .ok K wr := load_block ((H3.out.2.trans HR.out.2).keep hg) hKk (fun j u hu => cellsOf_pfx j u (by rw [hK]; exact hu))
      have q1 : (0 : Int) ≤ (i : Int) := by omega
      have q2 : (i : Int) < (ln : Int) := by omega
      have HT : Hid (((L.take (i + 1)).map fun e => e.2.1) = ((L.take i).map fun e => e.2.1) ++ [q]) := by
        show _ = _
        rw [List.take_add_one, he0]
        simp
      have HC := Lib.hid (And.intro hK (And.intro hK1 hKs))
      have hfK := hfold K hKk
      have hbk := heap_alloc_new wr (.cells K 31)
      have hbf := Fr.alloc No wr (.cells K 31)
      have HBB := Lib.hid (And.intro hbk (And.intro hbf (HR.out.2.trans hbf)))
      have HW := Lib.hid H3.out.2
      clear he0 hg hq hgn hK hKs hK1 hbk hbf hfold
      go_wp2_with (first | (at_builtin; go_loud (refine wpList_append_w ewP rfl (.tmp 16) (.tmp 21) rfl w3.heap.size _ i _ rfl (row_frNo HR.out.1 HBB.out.2.1) ⟨wr.heap.size, 0, none⟩ 1 (pfx q.b q.xs q.n) rfl (pfx_one _ _ _) (by have h := HC.out.2.2; rw [← HC.out.1, List.size_toArray] at h; exact h) (At.block (by rw [HC.out.1]; exact HBB.out.1)) (by omega) (by omega) (Nat.le_trans HR.out.2.size HBB.out.2.1.size) ?_; intro a6 c6 w6 hown6 hg6 hat6; have H6 : Hid (w6.ownsRow w3.heap.size 31 18 (.slice a6 (i + 1) c6) (i + 1) (flatP ((L.take (i + 1)).map fun e => e.2.1)) ∧ Fr No w3 w6) := ⟨by rw [HT.out, flatP_append]; simpa [flatP] using hown6, HBB.out.2.2.own_grown_w (row_frNo HR.out.1 HBB.out.2.1) (Nat.le_refl _) hg6⟩; clear hown6 hg6 hat6)) | fail)
      go_roundg (ln - i)
      case measure => exact hig
      case rel => exact ⟨i + 1, a6, c6, rfl, by go_num, by omega, by omega, H6.out.1, H6.out.2⟩
    · obtain rfl : i = ln := by omega
      have q1 : ¬ (i : Int) < (i : Int) := by omega
      go_wp2_with fail
      go_ret
      exact ⟨a5, c5, rfl, by have h := HR.out.1; rw [← HLN.out, List.take_length] at h; rw [← HLN.out]; exact row_base_w h H3.out.2.size, H3.out.2.trans HR.out.2⟩
end Go.Proofs.Ytnbohhiooigmbaa
