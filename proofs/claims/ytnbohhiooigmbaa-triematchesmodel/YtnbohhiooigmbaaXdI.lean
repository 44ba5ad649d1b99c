/-
  CONTRACT of path of package trie at one value type, over this seat's translation.
  Conditions: the trie lies in memory.
-/
import Derived.Test.YtnbohhiooigmbaaXcI
import Derived.Test.YtnbohhiooigmbaaGr
namespace Go.Proofs.Ytnbohhiooigmbaa
open Go.ChangeShapes Go.WideShapes Go.ChangeAt Go.RowKit
set_option linter.unusedVariables false

theorem elNI : El 97 73 8 := ⟨Try.underlying97, ⟨.pointer none, by kernel_rfl, rfl⟩⟩
theorem zeroPI : ∀ w, (zeroValue 73).run Try.prog w = .ok (.pointer none) w := by
  intro w
  kernel_rfl

set_option maxHeartbeats 4000000 in
set_option maxRecDepth 100000 in
theorem pathI (c : Bool) (ys : List Nat) (hy : Bytes ys) (a : Nat) (t4 t6 : Tr) (w : World) (hT : Tri 81 3 75 w a t4 t6) :
    Calls Try.prog 53 #[.pointer (some ⟨a, 0, none⟩), .agg (adr c ys).toArray] w fun e w' => ∃ ad cp, e = .returned (.slice ad (pth c ys (if c = true then t6 else t4)).length cp) ∧ At w' ad (ptrs (pth c ys (if c = true then t6 else t4))) ∧ Fr No w w' := by
  obtain ⟨t, ht⟩ : ∃ t, (if c = true then t6 else t4) = t := ⟨_, rfl⟩
  have hit : In 81 3 w t ∧ Wf t ∧ w.cell? ⟨a, if c = true then 1 else 0, none⟩ = some (rt t) := by
    cases hpb : c with
    | true => rw [hpb, if_pos rfl] at ht; rw [if_pos rfl, ← ht]; exact ⟨hT.i6, hT.w6, cell_of hT.head rfl⟩
    | false => rw [hpb, if_neg (by decide)] at ht; rw [if_neg (by decide), ← ht]; exact ⟨hT.i4, hT.w4, cell_of hT.head rfl⟩
  rw [ht]
  obtain ⟨B, hB, -, hBs, -⟩ := adr_letter c ys hy
  rw [hB]
  have HRT : Hid (∀ w', Calls Try.prog 40 #[.pointer (some ⟨a, 0, none⟩), .agg B] w' fun e w'' => e = .returned (.pointer (some ⟨a, if c = true then 1 else 0, none⟩)) ∧ Fr No w' w'') := fun w' => by rw [← hB]; exact rootI a c ys hy w'
  obtain ⟨ao, hao⟩ : ∃ ao, (if c = true then 1 else 0 : Nat) = ao := ⟨_, rfl⟩
  rw [hao] at hit HRT
  have hb0 := heap_alloc_new w (.cells B 29)
  have hF0 := Fr.alloc No w (.cells B 29)
  have HB := Lib.hid (And.intro hb0 (And.intro hF0 (And.intro hB hy)))
  have HIT := Lib.hid hit
  have HTT : Hid (∃ t', t' = t) := ⟨t, rfl⟩
  have vPN := zeroPI
  clear hit hB hb0 hF0 ht hao hT hy
  go_enter Try.func53, Try.ntmps53
  have t3 := Try.underlying3
  have u3 := Try.runUnderlying3
  have g3 := Try.isAgg3
  have z3 := Try.sizeOf3
  have t4 := Try.underlying4
  have u4 := Try.runUnderlying4
  have g4 := Try.isAgg4
  have z4 := Try.sizeOf4
  have t9 := Try.underlying9
  have u9 := Try.runUnderlying9
  have g9 := Try.isAgg9
  have z9 := Try.sizeOf9
  have t29 := Try.underlying29
  have u29 := Try.runUnderlying29
  have g29 := Try.isAgg29
  have z29 := Try.sizeOf29
  have t31 := Try.underlying31
  have u31 := Try.runUnderlying31
  have g31 := Try.isAgg31
  have z31 := Try.sizeOf31
  have t73 := Try.underlying73
  have u73 := Try.runUnderlying73
  have g73 := Try.isAgg73
  have z73 := Try.sizeOf73
  have t81 := Try.underlying81
  have u81 := Try.runUnderlying81
  have g81 := Try.isAgg81
  have z81 := Try.sizeOf81
  have t79 := Try.underlying79
  have u79 := Try.runUnderlying79
  have g79 := Try.isAgg79
  have z79 := Try.sizeOf79
  have t84 := Try.underlying84
  have u84 := Try.runUnderlying84
  have g84 := Try.isAgg84
  have z84 := Try.sizeOf84
  have t24 := Try.underlying24
  have u24 := Try.runUnderlying24
  have g24 := Try.isAgg24
  have z24 := Try.sizeOf24
  have t78 := Try.underlying78
  have u78 := Try.runUnderlying78
  have g78 := Try.isAgg78
  have z78 := Try.sizeOf78
  have t75 := Try.underlying75
  have u75 := Try.runUnderlying75
  have g75 := Try.isAgg75
  have z75 := Try.sizeOf75
  have t97 := Try.underlying97
  have u97 := Try.runUnderlying97
  have g97 := Try.isAgg97
  have z97 := Try.sizeOf97
  have c40 := Try.call40
  have c63 := Try.call63
  have c61 := Try.call61
  have mixed : Try.prog.follows .mixedOrders = true := by kernel_rfl
  obtain ⟨k30, hk30⟩ : ∃ k, k = 17 := ⟨_, rfl⟩
  rw [← hk30] at z29
  have nk30 : ¬ k30 = 0 := by omega
  have HK29 := Lib.hid hk30
  obtain ⟨k40, hk40⟩ : ∃ k, k = 18 := ⟨_, rfl⟩
  rw [← hk40] at z31
  have nk40 : ¬ k40 = 0 := by omega
  have HK31 := Lib.hid hk40
  have hP : Try.prog = PD := rfl
  rw [hP] at t3 u3 g3 z3 t4 u4 g4 z4 t9 u9 g9 z9 t29 u29 g29 z29 t31 u31 g31 z31 t73 u73 g73 z73 t81 u81 g81 z81 t79 u79 g79 z79 t84 u84 g84 z84 t24 u24 g24 z24 t78 u78 g78 z78 t75 u75 g75 z75 t97 u97 g97 z97 c40 c63 c61 mixed vPN ⊢
  have HP := Lib.hid hP.symm
  clear hP hk30 hk40
  have hBk : B.size = k30 := by rw [HK29.out]; exact hBs
  clear hBs
  have HL0 : Hid (∀ w', Fr No (w.alloc (.cells B 29)) w' → Sem.run PD (loadCellsFrom ⟨w.heap.size, 0, none⟩ 0 k30 #[]) w' = .ok B w') := fun w' hf => load_block (hf.keep HB.out.1) hBk (fun j v hv => by simpa using hv)
  have l0 := HL0.out _ (Fr.refl _ _)
  go_wp2_with (first | (go_at_call 40; go_loud (refine (at_prog HP.out (HRT.out _)).mono ?_; rintro e w3 ⟨rfl, hf3⟩; have hc3 := (HB.out.2.1.trans hf3).cell HIT.out.2.2)) | fail)
  obtain ⟨pb, hpb⟩ : ∃ pb, w.heap.size = pb := ⟨_, rfl⟩
  have HW3 : Hid (Fr No w w3 ∧ w3.heap[pb]? = some (.cells B 29 (0, 0)) ∧ In 81 3 w3 t) := ⟨HB.out.2.1.trans hf3, by rw [← hpb]; exact hf3.keep HB.out.1, HIT.out.1.no (HB.out.2.1.trans hf3)⟩
  rw [hpb]
  have HPB := Lib.hid hpb
  clear hf3 hc3 l0 HL0 hpb HRT
  go_loopg [5, 6] (szI t + 1) (fun g s5 s6 wr => ∃ (u : Tr) (ad : Option Addr) (i cp : Nat), s5 = .slice ad i cp ∧ s6 = rt u ∧ szI u < g ∧ Hid (∃ D, D.length = i ∧ (∀ x ∈ u.all, (i : Int) ≤ x.n) ∧ pth c ys t = D ++ pth c ys u ∧ In 81 3 w3 u ∧ Wf u ∧ wr.ownsRow w3.heap.size 73 1 (.slice ad i cp) i (ptrs D) ∧ Fr No w3 wr))
  case atStart => exact ⟨t, none, 0, 0, rfl, rfl, by omega, [], rfl, fun x hx => (HIT.out.2.1.ok x hx).parts.2.1, rfl, HW3.out.2.2, HIT.out.2.1, World.ownsRow_nil _ _ _ _, Fr.refl _ _⟩
  case round =>
    obtain ⟨u, ad, i, cp, rfl, rfl, hug, HR⟩ := hrel
    obtain ⟨D, hD, hxi, hDu, hiu, hwu, hown, hfu⟩ := HR.out
    cases u with
    | nil =>
      have HE : Hid (pth c ys t = D) := by show _ = _; rw [hDu]; exact List.append_nil D
      have HX := Lib.hid (And.intro hown (And.intro hfu hD))
      clear hD hxi hDu hiu hwu hown hfu HR
      rw [show rt Tr.nil = .pointer none from rfl]
      go_wp2_with fail
      go_quiet (fail)
      go_wp2_with fail
      go_ret
      exact ⟨ad, cp, by rw [HE.out, HX.out.2.2]; rfl, by rw [HE.out]; exact (At.own HX.out.1).frNo (Fr.drewN _ _ _), (HW3.out.1.trans HX.out.2.1).trans (Fr.drewN _ _ _)⟩
    | node g q v l r =>
      have hwq : okP q := hwu.1
      obtain ⟨K, hK, -, -, hKs, -, -⟩ := pfx_letter q.b q.xs q.n hwq.1
      have hKk : K.size = k40 := by rw [HK31.out]; exact hKs
      have HL : Hid (∀ w', Fr No w3 w' → Sem.run PD (loadCellsFrom ⟨g, 0, none⟩ 0 k40 #[]) w' = .ok K w' ∧ Sem.run PD (loadCellsFrom ⟨pb, 0, none⟩ 0 k30 #[]) w' = .ok B w') := fun w' hf => ⟨load_block (hf.keep hiu.1) hKk (fun j u hu => cellsOf_pfx j u (by rw [hK]; exact hu)), load_block (hf.keep HW3.out.2.1) hBk (fun j v hv => by simpa using hv)⟩
      have HS : Hid (∀ w', Fr No wr w' → Fr No wr w' ∧ Sem.run PD (loadCellsFrom ⟨g, 0, none⟩ 0 k40 #[]) w' = .ok K w' ∧ Sem.run PD (loadCellsFrom ⟨pb, 0, none⟩ 0 k30 #[]) w' = .ok B w') := fun w' hf => ⟨hf, HL.out w' (hfu.trans hf)⟩
      have HCV : Hid (∀ w', Calls Try.prog 61 #[.agg K, .agg B] w' fun e w'' => e = .returned (.bool (has q c ys)) ∧ Fr No w' w'') := fun w' => by rw [← hK, ← HB.out.2.2.1]; exact cont_any q.b c q.xs ys q.n hwq.1 HB.out.2.2.2 w'
      have HV : Hid (∀ w', Fr No w3 w' → w'.cell? ⟨g, 18, none⟩ = some (vp v)) := fun w' hf => cell_of (hf.keep hiu.1) (cellsOf_at hwq.1 v l r).1
      have hcsl := cellsOf_at hwq.1 v l r
      obtain ⟨ch, off, HCH, hsc, hoff⟩ : ∃ (ch : Tr) (off : Nat), Hid ((has q c ys = true → pth c ys (.node g q v l r) = entN g q v ++ pth c ys ch) ∧ (∀ w', Fr No w3 w' → In 81 3 w' ch ∧ w'.cell? ⟨g, off, none⟩ = some (rt ch)) ∧ Wf ch ∧ (∀ x ∈ ch.all, q.n < x.n)) ∧ szI ch < szI (.node g q v l r) ∧ (if sideB q c ys = true then 20 else 19) = off := by
        cases hs : sideB q c ys with
        | true => exact ⟨r, 20, ⟨fun h => by rw [pth, if_pos h, hs, if_pos rfl], fun w' hf => ⟨hiu.2.2.2.no hf, cell_of (hf.keep hiu.1) hcsl.2.2⟩, hwu.2.2.2.2, fun x hx => (hwu.2.2.1 x hx).2.1⟩, by show _ < szI l + szI r + 1; omega, rfl⟩
        | false => exact ⟨l, 19, ⟨fun h => by rw [pth, if_pos h, hs, if_neg (by decide)], fun w' hf => ⟨hiu.2.2.1.no hf, cell_of (hf.keep hiu.1) hcsl.2.1⟩, hwu.2.2.2.1, fun x hx => (hwu.2.1 x hx).2.1⟩, by show _ < szI l + szI r + 1; omega, rfl⟩
      have HSD : Hid (∀ w', Fr No w3 w' → Calls Try.prog 63 #[.pointer (some ⟨g, 0, none⟩), .agg B] w' fun e w'' => e = .returned (.pointer (some ⟨g, off, none⟩)) ∧ Fr No w' w'') := fun w' hf => by rw [← HB.out.2.2.1, ← hoff]; exact sdI g q v l r c ys hwq HB.out.2.2.2 w' (hf.keep hiu.1)
      have HQI : Hid ((i : Int) ≤ q.n ∧ q.n ≤ 128) := ⟨hxi q List.mem_cons_self, ok_le hwq⟩
      have hi128 : i ≤ 128 := by have := HQI.out; omega
      have HX := Lib.hid (And.intro hown (And.intro hfu (And.intro hD hDu)))
      have f2 := HS.out _ (Fr.drew No wr)
      rw [show rt (Tr.node g q v l r) = .pointer (some ⟨g, 0, none⟩) from rfl]
      clear hK hKs hwq hcsl hoff hiu hwu hown hfu hD hxi hDu HR
      cases hcv : has q c ys
      · have HE : Hid (pth c ys t = D) := by show _ = _; rw [HX.out.2.2.2, pth, if_neg (by rw [hcv]; decide)]; exact List.append_nil D
        rw [hcv] at HCV
        clear hcv
        go_wp2_with fail
        go_region_held3 (fun w' => Fr No wr w' ∧ Sem.run PD (loadCellsFrom ⟨g, 0, none⟩ 0 k40 #[]) w' = .ok K w' ∧ Sem.run PD (loadCellsFrom ⟨pb, 0, none⟩ 0 k30 #[]) w' = .ok B w') (first | assumption | exact HS.out _ (Fr.trans (And.left (by assumption)) hf3)) (first | (go_at_call 61; go_loud (refine (at_prog HP.out (HCV.out _)).mono ?_; rintro e w4 ⟨rfl, hf3⟩; have K3 : Fr No wr w4 := Fr.trans (And.left (by assumption)) hf3)))
        go_wp2_with fail
        go_ret
        exact ⟨ad, cp, by rw [HE.out, HX.out.2.2.1]; rfl, by rw [HE.out]; exact (At.own HX.out.1).frNo K3, (HW3.out.1.trans HX.out.2.1).trans K3⟩
      · have HE := Lib.hid (HCH.out.1 hcv)
        rw [hcv] at HCV
        clear hcv
        go_wp2_with fail
        go_region_held3 (fun w' => Fr No wr w' ∧ Sem.run PD (loadCellsFrom ⟨g, 0, none⟩ 0 k40 #[]) w' = .ok K w' ∧ Sem.run PD (loadCellsFrom ⟨pb, 0, none⟩ 0 k30 #[]) w' = .ok B w') (first | assumption | exact HS.out _ (Fr.trans (And.left (by assumption)) hf3)) (first | (go_at_call 61; go_loud (refine (at_prog HP.out (HCV.out _)).mono ?_; rintro e w4 ⟨rfl, hf3⟩; have K3 : Fr No wr w4 := Fr.trans (And.left (by assumption)) hf3)))
        have KT := HX.out.2.1.trans K3
        have lv := HV.out w4 KT
        cases v with
        | none =>
          rw [show vp none = .pointer none from rfl] at lv
          have lb := (HL.out w4 KT).2
          go_wp2_with (first | (go_at_call 63; go_loud (refine (at_prog HP.out (HSD.out _ KT)).mono ?_; rintro e w5 ⟨rfl, hf5⟩; have K5 := KT.trans hf5; have lc := (HCH.out.2.1 w5 K5).2)) | fail)
          go_roundg (szI (Tr.node g q none l r))
          case measure => exact hug
          case rel => exact ⟨ch, ad, i, cp, rfl, rfl, hsc, D, HX.out.2.2.1, fun x hx => by have h1 := HCH.out.2.2.2 x hx; have h2 := HQI.out.1; omega, by rw [HX.out.2.2.2, HE.out]; rfl, (HCH.out.2.1 w3 (Fr.refl _ _)).1, HCH.out.2.2.1, row_frNo HX.out.1 (K3.trans hf5), K5⟩
        | some ux =>
          obtain ⟨vb, x⟩ := ux
          rw [show vp (some (vb, x)) = .pointer (some ⟨vb, 0, none⟩) from rfl] at lv
          have hbk := heap_alloc_new w4 (.cells #[.pointer (some ⟨g, 0, none⟩)] 73)
          have hbf := Fr.alloc No w4 (.cells #[.pointer (some ⟨g, 0, none⟩)] 73)
          have HBB := Lib.hid (And.intro hbk (And.intro (K3.trans hbf) (HX.out.2.1.trans (K3.trans hbf))))
          clear hbk hbf
          have HLw := Lib.hid HL.out
          go_wp2_with (first | (at_builtin; go_loud (refine wpList_append_vals elNI rfl (.tmp 32) (.tmp 34) rfl w3.heap.size _ i _ rfl (row_frNo HX.out.1 HBB.out.2.1) (some ⟨w4.heap.size, 0, none⟩) 1 1 (ptrs [(g, q, vb, x)]) rfl (ptrs_one _) rfl (At.block HBB.out.1) (fun h => by cases h) (by unfold maxLen; omega) (by omega) (Nat.le_trans HX.out.2.1.size (K3.trans (Fr.alloc No w4 (.cells #[.pointer (some ⟨g, 0, none⟩)] 73))).size) ?_; intro a6 c6 w6 hown6 hg6 hat6; have H6 : Hid (w6.ownsRow w3.heap.size 73 1 (.slice a6 (i + 1) c6) (i + 1) (ptrs (D ++ [(g, q, vb, x)])) ∧ Fr No w3 w6) := ⟨(by rw [ptrs_append]; exact hown6), HBB.out.2.2.own_grown (row_frNo HX.out.1 HBB.out.2.1) (Nat.le_refl _) hg6⟩; clear hown6 hg6 hat6; have lb6 := (HLw.out w6 H6.out.2).2)) | (go_at_call 63; go_loud (refine (at_prog HP.out (HSD.out _ H6.out.2)).mono ?_; rintro e w7 ⟨rfl, hf7⟩; have K7 := H6.out.2.trans hf7; have lc := (HCH.out.2.1 w7 K7).2)) | fail)
          go_roundg (szI (Tr.node g q (some (vb, x)) l r))
          case measure => exact hug
          case rel => exact ⟨ch, a6, i + 1, c6, rfl, rfl, hsc, D ++ [(g, q, vb, x)], by rw [List.length_append, HX.out.2.2.1]; rfl, fun y hy => by have h1 := HCH.out.2.2.2 y hy; have h2 := HQI.out.1; omega, by rw [HX.out.2.2.2, HE.out, List.append_assoc]; rfl, (HCH.out.2.1 w3 (Fr.refl _ _)).1, HCH.out.2.2.1, row_frNo H6.out.1 hf7, K7⟩
end Go.Proofs.Ytnbohhiooigmbaa
