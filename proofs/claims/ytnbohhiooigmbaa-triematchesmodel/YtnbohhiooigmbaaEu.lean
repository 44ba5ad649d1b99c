/-
  CONTRACT of the law's put, over this seat's translation: a new list with the value of a prefix put in or replaced.
  Conditions: the row lies in memory; its list is in order.
-/
import Derived.Test.YtnbohhiooigmbaaEz
import Derived.Test.YtnbohhiooigmbaaCi
namespace Go.Proofs.Ytnbohhiooigmbaa
open Go.ChangeShapes Go.WideShapes Go.ChangeAt Go.RowKit
set_option linter.unusedVariables false

def noE : List Value := noP ++ [.int .i64 0]
theorem zero37 : ∀ w, (zeroValue 37).run Try.prog w = .ok (.agg noE.toArray) w := by
  intro w
  kernel_rfl
theorem ewE : Ew 26 37 19 40 := ⟨Try.underlying26, ⟨.agg noE.toArray, by kernel_rfl, rfl⟩, by decide⟩
/-- An entry built of its parts. -/
theorem build_ent {Z P : Array Value} {v : Value} (hZ : Z.size = 19) (hP : P.size = 18) : ((Array.foldl (fun (cs : Array Value) (x : Value × Nat) => cs.setIfInBounds x.snd x.fst) Z P.zipIdx 0 18).setIfInBounds 18 v).toList = P.toList ++ [v] := by
  have h : (Array.foldl (fun (cs : Array Value) (x : Value × Nat) => cs.setIfInBounds x.snd x.fst) Z P.zipIdx 0 18).toList = P.toList ++ Z.toList.drop 18 := by
    have hs : (18 : Nat) = P.zipIdx.size := by rw [Array.size_zipIdx, hP]
    rw [show Array.foldl (fun (cs : Array Value) (x : Value × Nat) => cs.setIfInBounds x.snd x.fst) Z P.zipIdx 0 18 = Array.foldl (fun (cs : Array Value) (x : Value × Nat) => cs.setIfInBounds x.snd x.fst) Z P.zipIdx 0 P.zipIdx.size by rw [← hs], ← Array.foldl_toList, Array.toList_zipIdx, fold_list P.toList 0 Z (by rw [Array.length_toList]; omega)]
    simp [hP]
  have hp : P.toList.length = 18 := by rw [Array.length_toList, hP]
  have hz : (Z.toList.drop 18).length = 1 := by rw [List.length_drop, Array.length_toList, hZ]
  rw [Array.toList_setIfInBounds, h, List.set_append_right _ _ (by omega), hp]
  congr 1
  match hd : Z.toList.drop 18, hz with
  | [u], _ => rfl
theorem put_next {p : Px} {x : Value} {L : List (Px × Value)} {i : Nat} {e : Px × Value} (h : L[i]? = some e) : L.drop i = e :: L.drop (i + 1) := by
  rw [← (List.getElem?_eq_some_iff.1 h).2, ← List.drop_eq_getElem_cons (List.getElem?_eq_some_iff.1 h).1]

set_option maxHeartbeats 8000000 in
set_option maxRecDepth 100000 in
theorem put_any (a : Option Addr) (n c : Nat) (L : List (Px × Value)) (p : Px) (z : Int) (w : World) (hr : RowE w a L) (hL : L.length = n) (hn : n ≤ 100) (hp : Bytes p.xs) :
    Calls Try.prog 13 #[.slice a n c, .agg (pfx p.b p.xs p.n).toArray, .int .i64 z] w fun e w' => ∃ ad m cp, e = .returned (.slice ad m cp) ∧ w'.ownsRow w.heap.size 37 19 (.slice ad m cp) m (flatE (putL p (.int .i64 z) L)) ∧ Fr No w w' := by
  obtain ⟨P, hP, -, -, hPs, -, hP1⟩ := pfx_letter p.b p.xs p.n hp
  obtain ⟨Z, hZ⟩ : ∃ Z : Array Value, noE.toArray = Z := ⟨_, rfl⟩
  have v37 := zero37
  rw [hZ] at v37
  have hZs : Z.size = 19 := by rw [← hZ]; rfl
  obtain ⟨E, hE⟩ : ∃ E : Array Value, (ent19 (p, .int .i64 z)).toArray = E := ⟨_, rfl⟩
  have hokp : okE (p, .int .i64 z) := ⟨hp, z, rfl⟩
  have hEs : E.size = 19 := by rw [← hE, List.size_toArray]; exact ent19_length hokp
  have hbE : (Array.foldl (fun (cs : Array Value) (x : Value × Nat) => cs.setIfInBounds x.snd x.fst) Z P.zipIdx 0 18).setIfInBounds 18 (.int .i64 z) = E := by
    apply Array.toList_inj.1
    rw [build_ent hZs hPs, ← hE, ← hP]; rfl
  have HX := Lib.hid (And.intro hr (And.intro hL (And.intro hP (And.intro hp (And.intro hE hokp)))))
  rw [hP]
  clear hr hL hP hp hZ hE hokp hP1
  go_enter Try.func13, Try.ntmps13
  have t3 := Try.underlying3
  have u3 := Try.runUnderlying3
  have g3 := Try.isAgg3
  have z3 := Try.sizeOf3
  have t4 := Try.underlying4
  have u4 := Try.runUnderlying4
  have g4 := Try.isAgg4
  have z4 := Try.sizeOf4
  have t26 := Try.underlying26
  have u26 := Try.runUnderlying26
  have g26 := Try.isAgg26
  have z26 := Try.sizeOf26
  have t29 := Try.underlying29
  have u29 := Try.runUnderlying29
  have g29 := Try.isAgg29
  have z29 := Try.sizeOf29
  have t31 := Try.underlying31
  have u31 := Try.runUnderlying31
  have g31 := Try.isAgg31
  have z31 := Try.sizeOf31
  have t37 := Try.underlying37
  have u37 := Try.runUnderlying37
  have g37 := Try.isAgg37
  have z37 := Try.sizeOf37
  have c39 := Try.call39
  have mixed : Try.prog.follows .mixedOrders = true := by kernel_rfl
  obtain ⟨k40, hk40⟩ : ∃ k, k = 18 := ⟨_, rfl⟩
  rw [← hk40] at z31
  have nk40 : ¬ k40 = 0 := by omega
  have HK31 := Lib.hid hk40
  obtain ⟨k19, hk19⟩ : ∃ k, k = 19 := ⟨_, rfl⟩
  rw [← hk19] at z37
  have nk19 : ¬ k19 = 0 := by omega
  have HK37 := Lib.hid hk19
  have hP : Try.prog = PD := rfl
  rw [hP] at t3 u3 g3 z3 t4 u4 g4 z4 t26 u26 g26 z26 t29 u29 g29 z29 t31 u31 g31 z31 t37 u37 g37 z37 c39 mixed v37 ⊢
  have HP := Lib.hid hP.symm
  clear hP hk40 hk19
  have hPk : P.size = k40 := by rw [HK31.out]; exact hPs
  have hZk : Z.size = k19 := by rw [HK37.out]; exact hZs
  have hEk : E.size = k19 := by rw [HK37.out]; exact hEs
  have hkb : ¬ 16777216 < k19 := by rw [HK37.out]; decide
  have hkc : ¬ k19 < k40 := by rw [HK37.out, HK31.out]; decide
  have hkd : ¬ k19 < 19 := by rw [HK37.out]; decide
  have hke : 18 < k19 := by rw [HK37.out]; decide
  have hbE' : (Array.foldl (fun (cs : Array Value) (x : Value × Nat) => cs.setIfInBounds x.snd x.fst) Z P.zipIdx 0 k40).setIfInBounds 18 (.int .i64 z) = E := by rw [HK31.out]; exact hbE
  have hZe : ¬ Z = #[] := fun h => by { rw [h, HK37.out] at hZk; cases hZk }
  have hfs : ¬ (Array.foldl (fun (cs : Array Value) (x : Value × Nat) => cs.setIfInBounds x.snd x.fst) Z P.zipIdx 0 k40).size < 19 := by
    have h := congrArg Array.size hbE'
    rw [Array.size_setIfInBounds] at h
    rw [h, hEk, HK37.out]
    decide
  clear hbE
  have hfE : Array.foldl (fun (cs : Array Value) (x : Value × Nat) => cs.setIfInBounds x.snd x.fst) (Array.map (fun x => Z[x % k19]!) (Array.range k19)) E.zipIdx 0 k19 = E := fold_set _ _ (by simp) hEk
  clear hPs hZs hEs
  obtain ⟨w1, hw1⟩ : ∃ w1, w.alloc (.cells P 31) = w1 := ⟨_, rfl⟩
  have H1 : Hid (Fr No w w1 ∧ w1.heap[w.heap.size]? = some (.cells P 31 (0, 0))) := ⟨by rw [← hw1]; exact Fr.alloc No w _, by rw [← hw1]; exact heap_alloc_new w _⟩
  obtain ⟨bx, hbx⟩ : ∃ bx, w.heap.size = bx := ⟨_, rfl⟩
  have HBX := Lib.hid hbx
  go_wp2_with fail
  clear hw1 hbx
  go_loopg [7, 8, 9] (n + 1) (fun g s7 s8 s9 wr => ∃ (i m cp : Nat) (ad : Option Addr) (d : Bool), s7 = .slice ad m cp ∧ s8 = .bool d ∧ s9 = .int .i64 i ∧ i ≤ n ∧ n - i < g ∧ m ≤ 2 * i ∧ Hid (∃ Lo, wr.ownsRow w1.heap.size 37 19 (.slice ad m cp) m (flatE Lo) ∧ Fr No w1 wr ∧ Lo ++ (if d = true then L.drop i else putL p (.int .i64 z) (L.drop i)) = putL p (.int .i64 z) L))
  case atStart => exact ⟨0, 0, 0, none, false, by go_num, by go_num, by go_num, by omega, by omega, by omega, [], ⟨rfl, .inl ⟨rfl, rfl⟩⟩, Fr.refl _ _, rfl⟩
  case round =>
    obtain ⟨i, m, cp, ad, d, rfl, rfl, rfl, hin, hig, hm, HO⟩ := hrel
    by_cases hi : i < n
    · obtain ⟨x, gx⟩ : ∃ x, L[i]? = some x := ⟨_, List.getElem?_eq_getElem (by rw [HX.out.2.1]; exact hi)⟩
      obtain ⟨ba, oa, rfl, lx⟩ := HX.out.1.at gx
      have hokx := HX.out.1.1 x (List.mem_of_getElem? gx)
      obtain ⟨X, hXe⟩ : ∃ X, (pfx x.1.b x.1.xs x.1.n).toArray = X := ⟨_, rfl⟩
      obtain ⟨XE, hXE⟩ : ∃ XE, (ent19 x).toArray = XE := ⟨_, rfl⟩
      have hXk : XE.size = k19 := by rw [HK37.out, ← hXE, List.size_toArray]; exact ent19_length hokx
      obtain ⟨Lo, ho, hf, heq⟩ := HO.out
      have HOO := Lib.hid (And.intro ho hf)
      have HS : Hid (∀ w', Fr No w1 w' → Fr No w1 w' ∧ Sem.run PD (loadCellsFrom ⟨ba, oa + i * k19, none⟩ 0 k40 #[]) w' = .ok X w' ∧ Sem.run PD (loadCellsFrom ⟨bx, 0, none⟩ 0 k40 #[]) w' = .ok P w' ∧ Sem.run PD (loadCellsFrom ⟨ba, oa + i * k19, none⟩ 0 k19 #[]) w' = .ok XE w') := fun w' hf => by
        have h := lx PD w' (H1.out.1.trans hf)
        have hb : w'.heap[bx]? = some (.cells P 31 (0, 0)) := hf.keep (by have h1 := H1.out.2; rw [HBX.out] at h1; exact h1)
        refine ⟨hf, ?_, load_block hb hPk (fun j v hv => by simpa using hv), ?_⟩
        · rw [HK37.out, HK31.out, ← hXe]; exact h.2.1
        · rw [HK37.out, ← hXE]; exact h.1
      obtain ⟨cc, hcc⟩ : ∃ cc, cmpX x.1 p = cc := ⟨_, rfl⟩
      have HCM : Hid (∀ w', Calls Try.prog 39 #[.agg X, .agg P] w' fun e w'' => e = .returned (.int .i64 cc) ∧ Fr No w' w'') := fun w' => by
        have h := cmpp_ref x.1.b p.b x.1.xs p.xs x.1.n p.n hokx.1 HX.out.2.2.2.1 w'
        rw [hXe, HX.out.2.2.1, show cmpP x.1.b p.b x.1.xs p.xs x.1.n p.n = cc from hcc] at h
        exact h
      have hfX : Array.foldl (fun (cs : Array Value) (x : Value × Nat) => cs.setIfInBounds x.snd x.fst) (Array.map (fun x => Z[x % k19]!) (Array.range k19)) XE.zipIdx 0 k19 = XE := fold_set _ _ (by simp) hXk
      rw [put_next (p := p) (x := .int .i64 z) gx] at heq
      have HQ := Lib.hid (And.intro heq (And.intro hcc (And.intro hXE hokx)))
      have p1 : (0 : Int) ≤ (i : Int) := by omega
      have p2 : (i : Int) < (n : Int) := by omega
      have hcs : cc = -1 ∨ cc = 0 ∨ cc = 1 := by
        rw [← hcc]
        rcases cmpX_cases x.1 p with h | h | h
        · exact .inl h
        · exact .inr (.inl (by rw [h]; exact cmpX_self _))
        · exact .inr (.inr h.2)
      have f1 := HS.out _ (hf.trans (Fr.drew No _))
      clear gx lx ho hf heq hcc hXe hXE hokx
      go_wp2_with fail
      go_region_held3 (fun w' => Fr No w1 w' ∧ Sem.run PD (loadCellsFrom ⟨ba, oa + i * k19, none⟩ 0 k40 #[]) w' = .ok X w' ∧ Sem.run PD (loadCellsFrom ⟨bx, 0, none⟩ 0 k40 #[]) w' = .ok P w' ∧ Sem.run PD (loadCellsFrom ⟨ba, oa + i * k19, none⟩ 0 k19 #[]) w' = .ok XE w') (first | assumption | (with_reducible exact HS.out _ K3)) (first | (go_at_call 39; ((with_reducible refine (at_prog HP.out (HCM.out _)).mono ?_); rintro e w3 ⟨rfl, hf3⟩; have K3 : Fr No w1 w3 := Fr.trans (And.left (by assumption)) hf3)))
      obtain ⟨-, lX3, lP3, lE3⟩ := HS.out _ K3
      have HR3 : Hid (∀ w', Fr No w3 w' → w'.ownsRow w1.heap.size 37 19 (.slice ad m cp) m (flatE Lo)) := fun w' h => row_frNo HOO.out.1 (((Fr.drew No _).trans hf3).trans h)
      cases d
      · rcases hcs with rfl | rfl | rfl
        · go_wp2_with (first | (at_builtin; (refine wpList_append_w ewE rfl (.tmp 38) (.tmp 43) rfl w1.heap.size _ m _ rfl (HR3.out _ (Fr.alloc No _ _)) ⟨w3.heap.size, 0, none⟩ 1 (ent19 x) rfl (ent19_one HQ.out.2.2.2) (ent19_length HQ.out.2.2.2) (At.block (by rw [HQ.out.2.2.1]; exact heap_alloc_new w3 _)) (by omega) (by omega) (Nat.le_trans K3.size (Fr.alloc No w3 _).size) ?_; intro a7 c7 w7 hown7 hg7 hat7; have K7 : Fr No w1 w7 := Fr.own_grown_w (K3.trans (Fr.alloc No w3 _)) (HR3.out _ (Fr.alloc No _ _)) (Nat.le_refl _) hg7; have H7x : w7.ownsRow w1.heap.size 37 19 (.slice a7 (m + 1) c7) (m + 1) (flatE (Lo ++ [x])) := (by have h := hown7; rw [show flatE (Lo ++ [x]) = _ from flatE_append _ _]; simpa [flatE] using h); have H7 := Lib.hid H7x; clear H7x; clear hown7 hg7 hat7)) | fail)
          go_roundg (n - i)
          case measure => exact hig
          case rel =>
            refine ⟨i + 1, m + 1, c7, a7, false, by go_num, by go_num, by go_num, by omega, by omega, by omega, _, H7.out, K7, ?_⟩
            have h := HQ.out.1
            rw [if_neg (by decide), putL, if_pos HQ.out.2.1] at h
            rw [if_neg (by decide), List.append_assoc]
            exact h
        · go_wp2_with (first | (at_builtin; (refine wpList_append_w ewE rfl (.tmp 30) (.tmp 34) rfl w1.heap.size _ m _ rfl (HR3.out _ (Fr.alloc No _ _)) ⟨w3.heap.size, 0, none⟩ 1 (ent19 (p, .int .i64 z)) rfl (ent19_one HX.out.2.2.2.2.2) (ent19_length HX.out.2.2.2.2.2) (At.block (by rw [HX.out.2.2.2.2.1]; exact heap_alloc_new w3 _)) (by omega) (by omega) (Nat.le_trans K3.size (Fr.alloc No w3 _).size) ?_; intro a6 c6 w6 hown6 hg6 hat6; have K6 : Fr No w1 w6 := Fr.own_grown_w (K3.trans (Fr.alloc No w3 _)) (HR3.out _ (Fr.alloc No _ _)) (Nat.le_refl _) hg6; have H6x : w6.ownsRow w1.heap.size 37 19 (.slice a6 (m + 1) c6) (m + 1) (flatE (Lo ++ [(p, .int .i64 z)])) := (by have h := hown6; rw [show flatE (Lo ++ [(p, .int .i64 z)]) = _ from flatE_append _ _]; simpa [flatE] using h); have H6 := Lib.hid H6x; clear H6x; clear hown6 hg6 hat6; obtain ⟨-, -, lP6, lE6⟩ := HS.out _ K6; have HR6 : Hid (∀ w', Fr No w6 w' → w'.ownsRow w1.heap.size 37 19 (.slice a6 (m + 1) c6) (m + 1) (flatE (Lo ++ [(p, .int .i64 z)]))) := fun w' h => row_frNo H6.out h)) | fail)
          go_roundg (n - i)
          case measure => exact hig
          case rel =>
            refine ⟨i + 1, m + 1, c6, a6, true, by go_num, by go_num, by go_num, by omega, by omega, by omega, _, H6.out, K6, ?_⟩
            have h := HQ.out.1
            have hxp : x.1 = p := by
              rcases cmpX_cases x.1 p with h1 | h1 | h1
              · have := HQ.out.2.1; rw [show cmpX x.1 p = -1 from h1] at this; cases this
              · exact h1
              · have := HQ.out.2.1; rw [h1.2] at this; cases this
            rw [if_neg (by decide), putL, if_neg (by rw [HQ.out.2.1]; decide), if_pos hxp] at h
            rw [if_pos rfl, List.append_assoc]
            exact h
        · go_wp2_with (first | (at_builtin; (refine wpList_append_w ewE rfl (.tmp 30) (.tmp 34) rfl w1.heap.size _ m _ rfl (HR3.out _ (Fr.alloc No _ _)) ⟨w3.heap.size, 0, none⟩ 1 (ent19 (p, .int .i64 z)) rfl (ent19_one HX.out.2.2.2.2.2) (ent19_length HX.out.2.2.2.2.2) (At.block (by rw [HX.out.2.2.2.2.1]; exact heap_alloc_new w3 _)) (by omega) (by omega) (Nat.le_trans K3.size (Fr.alloc No w3 _).size) ?_; intro a6 c6 w6 hown6 hg6 hat6; have K6 : Fr No w1 w6 := Fr.own_grown_w (K3.trans (Fr.alloc No w3 _)) (HR3.out _ (Fr.alloc No _ _)) (Nat.le_refl _) hg6; have H6x : w6.ownsRow w1.heap.size 37 19 (.slice a6 (m + 1) c6) (m + 1) (flatE (Lo ++ [(p, .int .i64 z)])) := (by have h := hown6; rw [show flatE (Lo ++ [(p, .int .i64 z)]) = _ from flatE_append _ _]; simpa [flatE] using h); have H6 := Lib.hid H6x; clear H6x; clear hown6 hg6 hat6; obtain ⟨-, -, lP6, lE6⟩ := HS.out _ K6; have HR6 : Hid (∀ w', Fr No w6 w' → w'.ownsRow w1.heap.size 37 19 (.slice a6 (m + 1) c6) (m + 1) (flatE (Lo ++ [(p, .int .i64 z)]))) := fun w' h => row_frNo H6.out h)) | (at_builtin; (refine wpList_append_w ewE rfl (.tmp 38) (.tmp 43) rfl w1.heap.size _ (m + 1) _ rfl (HR6.out _ (Fr.alloc No _ _)) ⟨w6.heap.size, 0, none⟩ 1 (ent19 x) rfl (ent19_one HQ.out.2.2.2) (ent19_length HQ.out.2.2.2) (At.block (by rw [HQ.out.2.2.1]; exact heap_alloc_new w6 _)) (by omega) (by omega) (Nat.le_trans K6.size (Fr.alloc No w6 _).size) ?_; intro a7 c7 w7 hown7 hg7 hat7; have K7 : Fr No w1 w7 := Fr.own_grown_w (K6.trans (Fr.alloc No w6 _)) (HR6.out _ (Fr.alloc No _ _)) (Nat.le_refl _) hg7; have H7x : w7.ownsRow w1.heap.size 37 19 (.slice a7 ((m + 1) + 1) c7) ((m + 1) + 1) (flatE (Lo ++ [(p, .int .i64 z)] ++ [x])) := (by have h := hown7; rw [show flatE (Lo ++ [(p, .int .i64 z)] ++ [x]) = _ from flatE_append _ _]; simpa [flatE] using h); have H7 := Lib.hid H7x; clear H7x; clear hown7 hg7 hat7)) | fail)
          go_roundg (n - i)
          case measure => exact hig
          case rel =>
            refine ⟨i + 1, m + 1 + 1, c7, a7, true, by go_num, by go_num, by go_num, by omega, by omega, by omega, _, H7.out, K7, ?_⟩
            have h := HQ.out.1
            have hxp : x.1 ≠ p := fun h1 => by
              have := HQ.out.2.1; rw [h1, cmpX_self] at this; cases this
            rw [if_neg (by decide), putL, if_neg (by rw [HQ.out.2.1]; decide), if_neg hxp] at h
            rw [if_pos rfl, List.append_assoc, List.append_assoc]
            exact h
      · rcases hcs with rfl | rfl | rfl
        all_goals (
            go_wp2_with (first | (at_builtin; (refine wpList_append_w ewE rfl (.tmp 38) (.tmp 43) rfl w1.heap.size _ m _ rfl (HR3.out _ (Fr.alloc No _ _)) ⟨w3.heap.size, 0, none⟩ 1 (ent19 x) rfl (ent19_one HQ.out.2.2.2) (ent19_length HQ.out.2.2.2) (At.block (by rw [HQ.out.2.2.1]; exact heap_alloc_new w3 _)) (by omega) (by omega) (Nat.le_trans K3.size (Fr.alloc No w3 _).size) ?_; intro a7 c7 w7 hown7 hg7 hat7; have K7 : Fr No w1 w7 := Fr.own_grown_w (K3.trans (Fr.alloc No w3 _)) (HR3.out _ (Fr.alloc No _ _)) (Nat.le_refl _) hg7; have H7x : w7.ownsRow w1.heap.size 37 19 (.slice a7 (m + 1) c7) (m + 1) (flatE (Lo ++ [x])) := (by have h := hown7; rw [show flatE (Lo ++ [x]) = _ from flatE_append _ _]; simpa [flatE] using h); have H7 := Lib.hid H7x; clear H7x; clear hown7 hg7 hat7)) | fail)
            go_roundg (n - i)
            case measure => exact hig
            case rel =>
              refine ⟨i + 1, m + 1, c7, a7, true, by go_num, by go_num, by go_num, by omega, by omega, by omega, _, H7.out, K7, ?_⟩
              have h : Lo ++ (x :: L.drop (i + 1)) = putL p (.int .i64 z) L := by simpa using HQ.out.1
              rw [if_pos rfl, List.append_assoc]
              exact h)
    · obtain rfl : i = n := by omega
      have p2 : ¬ ((i : Int) < (i : Int)) := by omega
      obtain ⟨Lo, ho, HO2, heq⟩ := HO.out
      rw [List.drop_of_length_le (by rw [HX.out.2.1]; exact Nat.le_refl _)] at heq
      have HQ := Lib.hid heq
      have HRR : Hid (∀ w', Fr No wr w' → w'.ownsRow w1.heap.size 37 19 (.slice ad m cp) m (flatE Lo)) := fun w' h => row_frNo ho h
      have lPr : Sem.run PD (loadCellsFrom ⟨bx, 0, none⟩ 0 k40 #[]) wr = .ok P wr := load_block (HO2.keep (by have h1 := H1.out.2; rw [HBX.out] at h1; exact h1)) hPk (fun j v hv => by simpa using hv)
      clear heq ho
      cases d
      · go_wp2_with (first | (at_builtin; (refine wpList_append_w ewE rfl (.tmp 47) (.tmp 51) rfl w1.heap.size _ m _ rfl (HRR.out _ (Fr.alloc No _ _)) ⟨wr.heap.size, 0, none⟩ 1 (ent19 (p, .int .i64 z)) rfl (ent19_one HX.out.2.2.2.2.2) (ent19_length HX.out.2.2.2.2.2) (At.block (by rw [HX.out.2.2.2.2.1]; exact heap_alloc_new wr _)) (by omega) (by omega) (Nat.le_trans HO2.size (Fr.alloc No wr _).size) ?_; intro a6 c6 w6 hown6 hg6 hat6; have K6 : Fr No w1 w6 := Fr.own_grown_w (HO2.trans (Fr.alloc No wr _)) (HRR.out _ (Fr.alloc No _ _)) (Nat.le_refl _) hg6; have H6x : w6.ownsRow w1.heap.size 37 19 (.slice a6 (m + 1) c6) (m + 1) (flatE (Lo ++ [(p, .int .i64 z)])) := (by have h := hown6; rw [show flatE (Lo ++ [(p, .int .i64 z)]) = _ from flatE_append _ _]; simpa [flatE] using h); have H6 := Lib.hid H6x; clear H6x; clear hown6 hg6 hat6)) | fail)
        go_ret
        refine ⟨a6, m + 1, c6, rfl, ?_, H1.out.1.trans K6⟩
        have h := HQ.out
        rw [if_neg (by decide), putL] at h
        rw [← h]
        exact row_base_w H6.out H1.out.1.size
      · go_wp2_with fail
        go_ret
        refine ⟨ad, m, cp, rfl, ?_, H1.out.1.trans HO2⟩
        have h : Lo = putL p (.int .i64 z) L := by simpa using HQ.out
        rw [← h]
        exact row_base_w (HRR.out _ (Fr.refl _ _)) H1.out.1.size
end Go.Proofs.Ytnbohhiooigmbaa
