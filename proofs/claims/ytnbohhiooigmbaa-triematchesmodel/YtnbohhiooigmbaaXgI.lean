/-
  CONTRACTS of appendTo and Prefixes of package trie at one value type, over this seat's translation.
  Conditions: the tree | the trie lies in memory; the row is the call's own.
-/
import Derived.Test.YtnbohhiooigmbaaXfI
namespace Go.Proofs.Ytnbohhiooigmbaa
open Go.ChangeShapes Go.WideShapes Go.ChangeAt Go.RowKit
set_option linter.unusedVariables false

def keysI (t : Tr) : List Px := t.toL.map fun e => e.1
set_option maxHeartbeats 4000000 in
set_option maxRecDepth 100000 in
theorem appendToI : ∀ (t : Tr) (base n cp : Nat) (ad : Option Addr) (D : List Px) (w : World), In 81 3 w t → Wf t → (∀ k ∈ blk t, k < base) → base ≤ w.heap.size → w.ownsRow base 31 18 (.slice ad n cp) n (flatP D) → (n + (keysI t).length) * 32 ≤ 140737488355328 →
    Calls Try.prog 45 #[rt t, .slice ad n cp] w fun e w' => ∃ ad' cp', e = .returned (.slice ad' (n + (keysI t).length) cp') ∧ w'.ownsRow base 31 18 (.slice ad' (n + (keysI t).length) cp') (n + (keysI t).length) (flatP (D ++ keysI t)) ∧ Fr (fun k => base ≤ k) w w' := by
  intro t
  induction t with
  | nil =>
    intro base n cp ad D w hi hw hb hs hown hM
    rw [show rt Tr.nil = .pointer none from rfl]
    go_enter Try.func45, Try.ntmps45
    go_wp2_with fail
    go_ret
    exact ⟨ad, cp, rfl, by simpa [keysI, Tr.toL] using hown, Fr.refl _ _⟩
  | node g q v l r ihl ihr =>
    intro base n cp ad D w hi hw hb hs hown hM
    obtain ⟨Z, hZ⟩ : ∃ Z : Array Value, noP.toArray = Z := ⟨_, rfl⟩
    have v31 := zero31
    rw [hZ] at v31
    have hz18 : Z.size = 18 := by rw [← hZ]; rfl
    obtain ⟨K, hK, -, -, hKs, -, hK1⟩ := pfx_letter q.b q.xs q.n hw.1.1
    have hgb : g < base := hb g List.mem_cons_self
    have hbl : ∀ k ∈ blk l, k < base := fun k hk => hb k (blk_node.2 (.inr (.inr (.inl hk))))
    have hbr : ∀ k ∈ blk r, k < base := fun k hk => hb k (blk_node.2 (.inr (.inr (.inr hk))))
    have hcs := cellsOf_at hw.1.1 v l r
    have HG : Hid (∀ w', Fr (fun k => base ≤ k) w w' → w'.heap[g]? = some (.cells (cellsOf q v l r).toArray 81 (0, 0)) ∧ w'.cell? ⟨g, 19, none⟩ = some (rt l) ∧ w'.cell? ⟨g, 20, none⟩ = some (rt r) ∧ In 81 3 w' l ∧ In 81 3 w' r ∧ base ≤ w'.heap.size) := fun w' hf => by
      have h1 := (hf.block g (some_lt hi.1) (by omega)).trans hi.1
      exact ⟨h1, cell_of h1 hcs.2.1, cell_of h1 hcs.2.2, hi.2.2.1.fr hf fun k hk => by have := hbl k hk; omega, hi.2.2.2.fr hf fun k hk => by have := hbr k hk; omega, Nat.le_trans hs hf.size⟩
    obtain ⟨lm, hlm⟩ : ∃ lm, (keysI l).length = lm := ⟨_, rfl⟩
    obtain ⟨rm, hrm⟩ : ∃ rm, (keysI r).length = rm := ⟨_, rfl⟩
    have HI : Hid ((∀ (n cp : Nat) (ad : Option Addr) (D : List Px) (w' : World), Fr (fun k => base ≤ k) w w' → w'.ownsRow base 31 18 (.slice ad n cp) n (flatP D) → (n + lm) * 32 ≤ 140737488355328 → Calls Try.prog 45 #[rt l, .slice ad n cp] w' fun e w'' => ∃ ad' cp', e = .returned (.slice ad' (n + lm) cp') ∧ w''.ownsRow base 31 18 (.slice ad' (n + lm) cp') (n + lm) (flatP (D ++ keysI l)) ∧ Fr (fun k => base ≤ k) w' w'')) := fun n cp ad D w' hf ho hM => by
      have h := ihl base n cp ad D w' (HG.out w' hf).2.2.2.1 hw.2.2.2.1 hbl (HG.out w' hf).2.2.2.2.2 ho (by rw [hlm]; exact hM)
      rw [hlm] at h
      exact h
    have HJ : Hid ((∀ (n cp : Nat) (ad : Option Addr) (D : List Px) (w' : World), Fr (fun k => base ≤ k) w w' → w'.ownsRow base 31 18 (.slice ad n cp) n (flatP D) → (n + rm) * 32 ≤ 140737488355328 → Calls Try.prog 45 #[rt r, .slice ad n cp] w' fun e w'' => ∃ ad' cp', e = .returned (.slice ad' (n + rm) cp') ∧ w''.ownsRow base 31 18 (.slice ad' (n + rm) cp') (n + rm) (flatP (D ++ keysI r)) ∧ Fr (fun k => base ≤ k) w' w'')) := fun n cp ad D w' hf ho hM => by
      have h := ihr base n cp ad D w' (HG.out w' hf).2.2.2.2.1 hw.2.2.2.2 hbr (HG.out w' hf).2.2.2.2.2 ho (by rw [hrm]; exact hM)
      rw [hrm] at h
      exact h
    have hKE : keysI (.node g q v l r) = (ent q v).map (fun e => e.1) ++ (keysI l ++ keysI r) := by simp [keysI, Tr.toL]
    have lv : w.cell? ⟨g, 18, none⟩ = some (vp v) := cell_of hi.1 hcs.1
    have hgw := hi.1
    rw [show rt (Tr.node g q v l r) = .pointer (some ⟨g, 0, none⟩) from rfl]
    have HC := Lib.hid (And.intro hK (And.intro hK1 hKs))
    have HKC : Hid (∀ (j : Nat) (u : Value), K[j]? = some u → (cellsOf q v l r).toArray[0 + j]? = some u) := fun j u hu => cellsOf_pfx j u (by rw [hK]; exact hu)
    clear ihl ihr hi hw hb hbl hbr hcs hZ hK hK1 hgb
    cases v with
    | none =>
      have hlen : (keysI (.node g q none l r)).length = lm + rm := by rw [hKE, List.length_append, List.length_append, hlm, hrm]; simp [ent]
      rw [show vp none = .pointer none from rfl] at lv
      rw [hlen] at hM ⊢
      have HKE : Hid (keysI (.node g q none l r) = keysI l ++ keysI r) := by show _ = _; rw [hKE]; rfl
      rw [HKE.out]
      have HO := Lib.hid hown
      clear hlen hKE hlm hrm hown hgw hz18 hKs v31
      go_enter Try.func45, Try.ntmps45
      go_wp2_with fail
      have f0 : Fr (fun k => base ≤ k) w w.drew ∧ w.drew.cell? ⟨g, 19, none⟩ = some (rt l) ∧ w.drew.cell? ⟨g, 20, none⟩ = some (rt r) := ⟨Fr.drew _ _, (HG.out _ (Fr.drew _ _)).2.1, (HG.out _ (Fr.drew _ _)).2.2.1⟩
      have HS : Hid (∀ w', Fr (fun k => base ≤ k) w w' → Fr (fun k => base ≤ k) w w' ∧ w'.cell? ⟨g, 19, none⟩ = some (rt l) ∧ w'.cell? ⟨g, 20, none⟩ = some (rt r)) := fun w' hf => ⟨hf, (HG.out w' hf).2.1, (HG.out w' hf).2.2.1⟩
      have HOD : Hid (w.drew.ownsRow base 31 18 (.slice ad n cp) n (flatP D)) := row_frNo HO.out (Fr.drew No w)
      go_region_held3 (fun w' => Fr (fun k => base ≤ k) w w' ∧ w'.cell? ⟨g, 19, none⟩ = some (rt l) ∧ w'.cell? ⟨g, 20, none⟩ = some (rt r)) (first | assumption | exact HS.out _ K3 | exact HS.out _ K4) (first | (go_at_call 45; (with_reducible refine (HI.out n cp ad D _ (And.left (by assumption)) HOD.out (by omega)).mono ?_; rintro e w3 ⟨a3, c3, rfl, ho3, hf3⟩; have K3 : Fr (fun k => base ≤ k) w w3 := Fr.trans (And.left (by assumption)) hf3)) | (go_at_call 45; (with_reducible refine (HJ.out (n + lm) c3 a3 (D ++ keysI l) _ (And.left (by assumption)) ho3 (by omega)).mono ?_; rintro e w4 ⟨a4, c4, rfl, ho4, hf4⟩; have K4 : Fr (fun k => base ≤ k) w w4 := Fr.trans (And.left (by assumption)) hf4)))
      go_wp2_with fail
      go_ret
      exact ⟨a4, c4, by rw [← Nat.add_assoc]; rfl, by rw [← Nat.add_assoc, ← List.append_assoc]; exact ho4, K4⟩
    | some ux =>
      obtain ⟨vb, x⟩ := ux
      have hlen : (keysI (.node g q (some (vb, x)) l r)).length = 1 + (lm + rm) := by rw [hKE, List.length_append, List.length_append, hlm, hrm]; rfl
      rw [show vp (some (vb, x)) = .pointer (some ⟨vb, 0, none⟩) from rfl] at lv
      rw [hlen] at hM ⊢
      have HKE : Hid (keysI (.node g q (some (vb, x)) l r) = [q] ++ (keysI l ++ keysI r)) := by show _ = _; rw [hKE]; rfl
      rw [HKE.out]
      have HO := Lib.hid hown
      clear hlen hKE hlm hrm hown
      go_enter Try.func45, Try.ntmps45
      have t3 := Try.underlying3
      have u3 := Try.runUnderlying3
      have g3 := Try.isAgg3
      have z3 := Try.sizeOf3
      have t4 := Try.underlying4
      have u4 := Try.runUnderlying4
      have g4 := Try.isAgg4
      have z4 := Try.sizeOf4
      have t9 := Try.underlying9
      have u9 := Try.runUnderlying9
      have g9 := Try.isAgg9
      have z9 := Try.sizeOf9
      have t29 := Try.underlying29
      have u29 := Try.runUnderlying29
      have g29 := Try.isAgg29
      have z29 := Try.sizeOf29
      have t31 := Try.underlying31
      have u31 := Try.runUnderlying31
      have g31 := Try.isAgg31
      have z31 := Try.sizeOf31
      have t47 := Try.underlying47
      have u47 := Try.runUnderlying47
      have g47 := Try.isAgg47
      have z47 := Try.sizeOf47
      have t73 := Try.underlying73
      have u73 := Try.runUnderlying73
      have g73 := Try.isAgg73
      have z73 := Try.sizeOf73
      have t81 := Try.underlying81
      have u81 := Try.runUnderlying81
      have g81 := Try.isAgg81
      have z81 := Try.sizeOf81
      have t79 := Try.underlying79
      have u79 := Try.runUnderlying79
      have g79 := Try.isAgg79
      have z79 := Try.sizeOf79
      have t84 := Try.underlying84
      have u84 := Try.runUnderlying84
      have g84 := Try.isAgg84
      have z84 := Try.sizeOf84
      have t78 := Try.underlying78
      have u78 := Try.runUnderlying78
      have g78 := Try.isAgg78
      have z78 := Try.sizeOf78
      have c45 := Try.call45
      have mixed : Try.prog.follows .mixedOrders = true := by kernel_rfl
      obtain ⟨k40, hk40⟩ : ∃ k, k = 18 := ⟨_, rfl⟩
      rw [← hk40] at z31
      have nk40 : ¬ k40 = 0 := by omega
      have HK31 := Lib.hid hk40
      have hP : Try.prog = PD := rfl
      rw [hP] at t3 u3 g3 z3 t4 u4 g4 z4 t9 u9 g9 z9 t29 u29 g29 z29 t31 u31 g31 z31 t47 u47 g47 z47 t73 u73 g73 z73 t81 u81 g81 z81 t79 u79 g79 z79 t84 u84 g84 z84 t78 u78 g78 z78 c45 mixed v31 ⊢
      have HP := Lib.hid hP.symm
      clear hP hk40
      have hZk : Z.size = k40 := by rw [HK31.out]; exact hz18
      have hKk : K.size = k40 := by rw [HK31.out]; exact hKs
      have hkb : ¬ 16777216 < k40 := by rw [HK31.out]; decide
      have hfK : Array.foldl (fun (cs : Array Value) (x : Value × Nat) => cs.setIfInBounds x.snd x.fst) (Array.map (fun x => Z[x % k40]!) (Array.range k40)) K.zipIdx 0 k40 = K := fold_set _ _ (by simp) hKk
      have lg : Sem.run PD (loadCellsFrom ⟨g, 0, none⟩ 0 k40 #[]) w = .ok K w := load_block hgw hKk HKC.out
      have hbk := heap_alloc_new w (.cells K 31)
      have hbf := Fr.alloc No w (.cells K 31)
      have HBB := Lib.hid (And.intro hbk hbf)
      have HHS := Lib.hid hs
      clear hz18 hKs hgw hbk hbf
      go_wp2_with (first | (at_builtin; (refine wpList_append_w ewP rfl (.tmp 13) (.tmp 18) rfl base _ n _ rfl (row_frNo HO.out HBB.out.2) ⟨w.heap.size, 0, none⟩ 1 (pfx q.b q.xs q.n) rfl (pfx_one _ _ _) (by have h := HC.out.2.2; rw [← HC.out.1, List.size_toArray] at h; exact h) (At.block (by rw [HC.out.1]; exact HBB.out.1)) (by omega) (by omega) (Nat.le_trans HHS.out HBB.out.2.size) ?_; intro a6 c6 w6 hown6 hg6 hat6; have H6 : Hid (w6.ownsRow base 31 18 (.slice a6 (n + 1) c6) (n + 1) (flatP (D ++ [q])) ∧ Fr (fun k => base ≤ k) w w6) := ⟨by rw [flatP_append]; simpa [flatP] using hown6, HBB.out.2.no.trans (Fr.grown hg6 (fun k hk => ((row_frNo HO.out HBB.out.2).lt k hk).1))⟩; clear hown6 hg6 hat6)) | fail)
      have HS : Hid (∀ w', Fr (fun k => base ≤ k) w w' → Fr (fun k => base ≤ k) w w' ∧ w'.cell? ⟨g, 19, none⟩ = some (rt l) ∧ w'.cell? ⟨g, 20, none⟩ = some (rt r)) := fun w' hf => ⟨hf, (HG.out w' hf).2.1, (HG.out w' hf).2.2.1⟩
      have f0 := HS.out _ (H6.out.2.trans (Fr.drew _ w6))
      have HOD : Hid (w6.drew.ownsRow base 31 18 (.slice a6 (n + 1) c6) (n + 1) (flatP (D ++ [q]))) := row_frNo H6.out.1 (Fr.drew No w6)
      go_region_held3 (fun w' => Fr (fun k => base ≤ k) w w' ∧ w'.cell? ⟨g, 19, none⟩ = some (rt l) ∧ w'.cell? ⟨g, 20, none⟩ = some (rt r)) (first | assumption | exact HS.out _ K3 | exact HS.out _ K4) (first | (go_at_call 45; (with_reducible refine (at_prog HP.out (HI.out (n + 1) c6 a6 (D ++ [q]) _ (And.left (by assumption)) HOD.out (by omega))).mono ?_; rintro e w3 ⟨a3, c3, rfl, ho3, hf3⟩; have K3 : Fr (fun k => base ≤ k) w w3 := Fr.trans (And.left (by assumption)) hf3)) | (go_at_call 45; (with_reducible refine (at_prog HP.out (HJ.out (n + 1 + lm) c3 a3 (D ++ [q] ++ keysI l) _ (And.left (by assumption)) ho3 (by omega))).mono ?_; rintro e w4 ⟨a4, c4, rfl, ho4, hf4⟩; have K4 : Fr (fun k => base ≤ k) w w4 := Fr.trans (And.left (by assumption)) hf4)))
      go_wp2_with fail
      go_ret
      exact ⟨a4, c4, by rw [← Nat.add_assoc, ← Nat.add_assoc]; rfl, by have h := ho4; simp only [List.append_assoc, List.cons_append, List.nil_append] at h; rw [← Nat.add_assoc, ← Nat.add_assoc]; exact h, K4⟩

set_option maxHeartbeats 4000000 in
set_option maxRecDepth 100000 in
theorem prefixesI (a : Nat) (t4 t6 : Tr) (w : World) (hT : Tri 81 3 75 w a t4 t6) (hM : (t4.toL ++ t6.toL).length ≤ 100000) :
    Calls Try.prog 19 #[.pointer (some ⟨a, 0, none⟩)] w fun e w' => ∃ ad cp, e = .returned (.slice ad (t4.toL ++ t6.toL).length cp) ∧ w'.ownsRow w.heap.size 31 18 (.slice ad (t4.toL ++ t6.toL).length cp) (t4.toL ++ t6.toL).length (flatP ((t4.toL ++ t6.toL).map fun e => e.1)) ∧ Fr No w w' := by
  obtain ⟨n, hn⟩ : ∃ n, (t4.toL ++ t6.toL).length = n := ⟨_, rfl⟩
  obtain ⟨m4, h4⟩ : ∃ m, (keysI t4).length = m := ⟨_, rfl⟩
  obtain ⟨m6, h6⟩ : ∃ m, (keysI t6).length = m := ⟨_, rfl⟩
  have hkk : (t4.toL ++ t6.toL).map (fun e => e.1) = keysI t4 ++ keysI t6 := List.map_append
  have hnm : n = m4 + m6 := by rw [← hn, ← h4, ← h6, List.length_append]; simp [keysI]
  have hhd := hT.head
  rw [hn] at hhd hM ⊢
  rw [hkk]
  have c0 : w.cell? ⟨a, 0, none⟩ = some (rt t4) := cell_of hhd rfl
  have c1 : w.cell? ⟨a, 1, none⟩ = some (rt t6) := cell_of hhd rfl
  have c2 : w.cell? ⟨a, 2, none⟩ = some (.int .i64 (n : Int)) := cell_of hhd rfl
  obtain ⟨zz, hz, hzc⟩ := ewP.info
  obtain ⟨i0, hi, hz0, hz1, hz2⟩ := info_parts hz
  obtain ⟨w1, hmk, hown, hg⟩ := run_make_own (P := Try.prog) w w.heap.size 47 31 i0 _ 18 Try.underlying47 hi hz0 hz1 .i64 .i64 n (by rw [hz2]; omega) (by unfold maxLen; omega) (Nat.le_refl _)
  have hF1 : Fr No w w1 := Fr.grown hg fun k hk => by cases hk
  have hlt4 : ∀ k ∈ blk t4, k < w.heap.size := fun k hk => hT.i4.lt k hk
  have hlt6 : ∀ k ∈ blk t6, k < w.heap.size := fun k hk => hT.i6.lt k hk
  have HK : Hid (∀ w', Fr (fun k => w.heap.size ≤ k) w1 w' → w'.cell? ⟨a, 0, none⟩ = some (rt t4) ∧ w'.cell? ⟨a, 1, none⟩ = some (rt t6) ∧ In 81 3 w' t4 ∧ In 81 3 w' t6 ∧ w.heap.size ≤ w'.heap.size) := fun w' hf => by
    have h0 : Fr No w w' := hF1.ofNew hf fun k hk => .inr hk
    exact ⟨h0.cell c0, h0.cell c1, hT.i4.no h0, hT.i6.no h0, h0.size⟩
  have HI : Hid (∀ (cp : Nat) (ad : Option Addr) (w' : World), Fr (fun k => w.heap.size ≤ k) w1 w' → w'.ownsRow w.heap.size 31 18 (.slice ad 0 cp) 0 (flatP []) → Calls Try.prog 45 #[rt t4, .slice ad 0 cp] w' fun e w'' => ∃ ad' cp', e = .returned (.slice ad' m4 cp') ∧ w''.ownsRow w.heap.size 31 18 (.slice ad' m4 cp') m4 (flatP (keysI t4)) ∧ Fr (fun k => w.heap.size ≤ k) w' w'') := fun cp ad w' hf ho => by
    have h := appendToI t4 w.heap.size 0 cp ad [] w' (HK.out w' hf).2.2.1 hT.w4 hlt4 (HK.out w' hf).2.2.2.2 ho (by rw [h4]; omega)
    rw [h4, Nat.zero_add] at h
    exact h
  have HJ : Hid (∀ (cp : Nat) (ad : Option Addr) (w' : World), Fr (fun k => w.heap.size ≤ k) w1 w' → w'.ownsRow w.heap.size 31 18 (.slice ad m4 cp) m4 (flatP (keysI t4)) → Calls Try.prog 45 #[rt t6, .slice ad m4 cp] w' fun e w'' => ∃ ad' cp', e = .returned (.slice ad' (m4 + m6) cp') ∧ w''.ownsRow w.heap.size 31 18 (.slice ad' (m4 + m6) cp') (m4 + m6) (flatP (keysI t4 ++ keysI t6)) ∧ Fr (fun k => w.heap.size ≤ k) w' w'') := fun cp ad w' hf ho => by
    have h := appendToI t6 w.heap.size m4 cp ad (keysI t4) w' (HK.out w' hf).2.2.2.1 hT.w6 hlt6 (HK.out w' hf).2.2.2.2 ho (by rw [h6]; omega)
    rw [h6] at h
    exact h
  have HF1 := Lib.hid (And.intro hF1 hown)
  clear hT hhd hi hz hzc hz0 hz1 hz2 hn h4 h6 hkk hlt4 hlt6 hg hF1 hown
  have HN := Lib.hid hnm
  clear hnm
  go_enter Try.func19, Try.ntmps19
  go_wp2_with fail
  have HS : Hid (∀ w', Fr (fun k => w.heap.size ≤ k) w1 w' → Fr (fun k => w.heap.size ≤ k) w1 w' ∧ w'.cell? ⟨a, 0, none⟩ = some (rt t4) ∧ w'.cell? ⟨a, 1, none⟩ = some (rt t6)) := fun w' hf => ⟨hf, (HK.out w' hf).1, (HK.out w' hf).2.1⟩
  have f0 := HS.out _ (Fr.drew _ w1)
  have HOD : Hid (w1.drew.ownsRow w.heap.size 31 18 (.slice (some ⟨w.heap.size, 0, none⟩) 0 n) 0 (flatP [])) := row_frNo HF1.out.2 (Fr.drew No w1)
  go_region_held3 (fun w' => Fr (fun k => w.heap.size ≤ k) w1 w' ∧ w'.cell? ⟨a, 0, none⟩ = some (rt t4) ∧ w'.cell? ⟨a, 1, none⟩ = some (rt t6)) (first | assumption | exact HS.out _ K3 | exact HS.out _ K4) (first | (go_at_call 45; (with_reducible refine (HI.out _ _ _ (And.left (by assumption)) HOD.out).mono ?_; rintro e w3 ⟨a3, c3, rfl, ho3, hf3⟩; have K3 : Fr (fun k => w.heap.size ≤ k) w1 w3 := Fr.trans (And.left (by assumption)) hf3)) | (go_at_call 45; (with_reducible refine (HJ.out c3 a3 _ (And.left (by assumption)) ho3).mono ?_; rintro e w4 ⟨a4, c4, rfl, ho4, hf4⟩; have K4 : Fr (fun k => w.heap.size ≤ k) w1 w4 := Fr.trans (And.left (by assumption)) hf4)))
  go_wp2_with fail
  go_ret
  exact ⟨a4, c4, by rw [HN.out]; rfl, by rw [HN.out]; exact ho4, HF1.out.1.ofNew K4 fun k hk => .inr hk⟩
end Go.Proofs.Ytnbohhiooigmbaa
