/-
  CONTRACT of provide of package trie at one value type, over this seat's translation: where p's node is, and what the memory is once its value is written.
  Conditions: the trie lies in memory, the prefix is valid.
-/
import Derived.Test.YtnbohhiooigmbaaXcI
import Derived.Test.YtnbohhiooigmbaaMm
import Derived.Test.YtnbohhiooigmbaaCm
namespace Go.Proofs.Ytnbohhiooigmbaa
open Go.ChangeShapes Go.WideShapes Go.ChangeAt Go.RowKit
set_option linter.unusedVariables false

def node0I : Array Value := (cellsOf ⟨false, zeros, 0⟩ none .nil .nil).toArray
theorem zeroNI : ∀ w, (zeroValue 81).run Try.prog w = .ok (.agg node0I) w := by
  intro w
  kernel_rfl
theorem fold_nodeI (q : Px) (hx : Bytes q.xs) : Array.foldl (fun (cs : Array Value) (x : Value × Nat) => cs.setIfInBounds x.snd x.fst) node0I (pfx q.b q.xs q.n).toArray.zipIdx 0 18 = (cellsOf q none .nil .nil).toArray := by
  have hl := pfx_length (b := q.b) (n := q.n) hx.1
  have hs : 18 = (pfx q.b q.xs q.n).toArray.zipIdx.size := by rw [Array.size_zipIdx, List.size_toArray, hl]
  rw [hs, ← Array.foldl_toList, Array.toList_zipIdx]
  apply Array.toList_inj.1
  rw [fold_list _ 0 _ (by rw [List.toList_toArray, hl]; decide)]
  simp only [hl]
  rfl
/-- What provide leaves: the place ⟨sb, so⟩ of the tree u is written, p's node is gp. -/
structure ProvI (w : World) (a sb so : Nat) (u : Tr) (p : Px) (gv : Option (Nat × Value)) (gp g1 g2 : Nat) (w' : World) : Prop where
  n1 : w.heap.size ≤ g1
  n2 : w.heap.size ≤ g2
  n3 : g1 ≠ g2
  fr : Fr (fun k => k = sb) w w'
  slot : ∀ v cs T, w.heap[sb]? = some (.cells cs T (0, 0)) → w'.heap[sb]? = some (.cells (cs.setIfInBounds so (rt (top p v g1 g2 u))) T (0, 0))
  here : w.heap.size ≤ gp ∨ gp ∈ blk u
  cell : ∃ C : Array Value, w'.heap[gp]? = some (.cells C 81 (0, 0)) ∧ C.size = 21 ∧ C[18]? = some (vp gv)
  fin : ∀ (v : Nat × Value) (w'' : World), (∀ k, k < w'.heap.size → k ≠ gp → k ≠ sb → k ≠ a → w''.heap[k]? = w'.heap[k]?) → (∀ C : Array Value, w'.heap[gp]? = some (.cells C 81 (0, 0)) → w''.heap[gp]? = some (.cells (C.setIfInBounds 18 (vp (some v))) 81 (0, 0))) → VAt 3 w'' (some v) → In 81 3 w'' (top p v g1 g2 u)

set_option maxHeartbeats 8000000 in
set_option maxRecDepth 100000 in
theorem provideI (p : Px) (hp : okP p) (a ao : Nat) (t t4 t6 : Tr) (w : World) (hT : Tri 81 3 75 w a t4 t6) (hao : (if p.b = true then 1 else 0 : Nat) = ao) (ht : (if p.b = true then t6 else t4) = t) (sb so : Nat) (hsl : slotOf ⟨a, ao, none⟩ t (fp t p) = ⟨sb, so, none⟩) :
    Calls Try.prog 37 #[.pointer (some ⟨a, 0, none⟩), .agg (pfx p.b p.xs p.n).toArray] w fun e w' => ∃ gp g1 g2, e = .returned (.pointer (some ⟨gp, 0, none⟩)) ∧ ProvI w a sb so (sub t (fp t p)) p (getT t p) gp g1 g2 w' := by
  have hit : In 81 3 w t ∧ Wf t ∧ w.cell? ⟨a, ao, none⟩ = some (rt t) ∧ (∀ q ∈ t.all, q.b = p.b) ∧ (blk t).Nodup ∧ a ∉ blk t ∧ a < w.heap.size := by
    have hnd := hT.nd
    rw [List.nodup_cons, List.nodup_append] at hnd
    obtain ⟨h1, h2, h3, h4⟩ := hnd
    rw [← hao, ← ht]
    cases hpb : p.b with
    | true => rw [if_pos rfl, if_pos rfl]; exact ⟨hT.i6, hT.w6, cell_of hT.head rfl, hT.f6, h3, fun h => h1 (List.mem_append.2 (.inr h)), some_lt hT.head⟩
    | false => rw [if_neg (by decide), if_neg (by decide)]; exact ⟨hT.i4, hT.w4, cell_of hT.head rfl, hT.f4, h2, fun h => h1 (List.mem_append.2 (.inl h)), some_lt hT.head⟩
  obtain ⟨P, hP0, -, -, hPs, hPA, hP1⟩ := pfx_letter p.b p.xs p.n hp.1
  obtain ⟨B, hB, -, hBs, -⟩ := adr_letter p.b p.xs hp.1
  rw [hB] at hPA
  rw [hP0]
  have HRT : Hid (∀ w', Calls Try.prog 40 #[.pointer (some ⟨a, 0, none⟩), .agg B] w' fun e w'' => e = .returned (.pointer (some ⟨a, ao, none⟩)) ∧ Fr No w' w'') := fun w' => by rw [← hB, ← hao]; exact rootI a p.b p.xs hp.1 w'
  have HFD : Hid (∀ (ab ao : Nat) (u : Tr) w', In 81 3 w' u → Wf u → w'.cell? ⟨ab, ao, none⟩ = some (rt u) → Calls Try.prog 42 #[.pointer (some ⟨ab, ao, none⟩), .agg P] w' fun e w'' => e = .returned (.pointer (some (slotOf ⟨ab, ao, none⟩ u (fp u p)))) ∧ Fr No w' w'') := fun ab ao u w' h1 h2 h3 => by rw [← hP0]; exact findI p hp.1 u ab ao w' h1 h2 h3
  have hsc : ∀ w', Fr No w w' → w'.cell? ⟨sb, so, none⟩ = some (rt (sub t (fp t p))) ∧ In 81 3 w' (sub t (fp t p)) := fun w' hf => by
    rw [← hsl]
    exact ⟨slot_cell (hit.1.no hf) hit.2.1 (fp_ok t p) (hf.cell hit.2.2.1), sub_in (hit.1.no hf)⟩
  have hsbn : sb ∉ blk (sub t (fp t p)) ∧ sb < w.heap.size ∧ ∃ cs T, w.heap[sb]? = some (.cells cs T (0, 0)) := by
    by_cases he : fp t p = []
    · rw [he, slotOf] at hsl
      cases hsl
      rw [he, sub]
      exact ⟨hit.2.2.2.2.2.1, hit.2.2.2.2.2.2, _, _, hT.head⟩
    · obtain ⟨h1, -⟩ := slot_block (A := ⟨a, ao, none⟩) he (fp_ok t p)
      have h2 := slot_notin (A := ⟨a, ao, none⟩) he (fp_ok t p) hit.2.2.2.2.1
      rw [hsl] at h1 h2
      refine ⟨h2, hit.1.lt sb h1, ?_⟩
      have hall : ∀ {u : Tr} {ds : List Bool} {A : Addr}, ds ≠ [] → okW u ds → In 81 3 w u → ∃ cs T, w.heap[(slotOf A u ds).block]? = some (.cells cs T (0, 0)) := by
        intro u
        induction u with
        | nil => intro ds A h1 h2; cases ds with
          | nil => exact absurd rfl h1
          | cons d ds => exact h2.elim
        | node g q v l r ihl ihr =>
          intro ds A h1 h2 h3
          cases ds with
          | nil => exact absurd rfl h1
          | cons d ds =>
            rw [slotOf]
            rw [okW] at h2
            cases d with
            | true =>
              rw [if_pos rfl] at h2 ⊢
              by_cases hd : ds = []
              · subst hd; rw [slotOf]; exact ⟨_, _, h3.1⟩
              · exact ihr hd h2 h3.2.2.2
            | false =>
              rw [if_neg (by decide)] at h2 ⊢
              by_cases hd : ds = []
              · subst hd; rw [slotOf]; exact ⟨_, _, h3.1⟩
              · exact ihl hd h2 h3.2.2.1
      have := hall (A := ⟨a, ao, none⟩) he (fp_ok t p) hit.1
      rw [hsl] at this
      exact this
  have hsubw : ∀ {u : Tr} (ds : List Bool), Wf u → Wf (sub u ds) ∧ ∀ x ∈ (sub u ds).all, x ∈ u.all := by
    intro u
    induction u with
    | nil => intro ds h; cases ds <;> exact ⟨h, fun x hx => hx⟩
    | node g q v l r ihl ihr =>
      intro ds h
      cases ds with
      | nil => exact ⟨h, fun x hx => hx⟩
      | cons d ds =>
        rw [sub]
        split
        · obtain ⟨k1, k2⟩ := ihr ds h.2.2.2.2
          exact ⟨k1, fun x hx => List.mem_cons_of_mem _ (List.mem_append.2 (.inr (k2 x hx)))⟩
        · obtain ⟨k1, k2⟩ := ihl ds h.2.2.2.1
          exact ⟨k1, fun x hx => List.mem_cons_of_mem _ (List.mem_append.2 (.inl (k2 x hx)))⟩
  have hstop : ∀ (u : Tr) g q v l r, sub u (fp u p) = .node g q v l r → q ≠ p → cov q p ≠ true := by
    intro u
    induction u with
    | nil => intro g q v l r h; rw [fp, sub] at h; cases h
    | node g0 q0 v0 l0 r0 ihl ihr =>
      intro g q v l r h hne
      rw [fp] at h
      split at h
      · split at h
        · rw [sub, if_pos rfl] at h; exact ihr g q v l r h hne
        · rw [sub, if_neg (by decide)] at h; exact ihl g q v l r h hne
      · rename_i hno
        rw [sub] at h
        cases h
        exact fun hc => hno ⟨hne, hc⟩
  have hwu := (hsubw (fp t p) hit.2.1).1
  have hbu : ∀ x ∈ (sub t (fp t p)).all, x.b = p.b := fun x hx => hit.2.2.2.1 x ((hsubw (fp t p) hit.2.1).2 x hx)
  have hgt : getT t p = getN p (sub t (fp t p)) := rfl
  have hsu := hstop t
  have hau : a ∉ blk (sub t (fp t p)) ∧ a < w.heap.size := ⟨fun h => hit.2.2.2.2.2.1 (sub_blk h), hit.2.2.2.2.2.2⟩
  have hbn : (blk (sub t (fp t p))).Nodup := sub_nodup hit.2.2.2.2.1
  generalize hu : sub t (fp t p) = u at *
  have HF0 : Hid (∀ w', In 81 3 w' t → w'.cell? ⟨a, ao, none⟩ = some (rt t) → Calls Try.prog 42 #[.pointer (some ⟨a, ao, none⟩), .agg P] w' fun e w'' => e = .returned (.pointer (some ⟨sb, so, none⟩)) ∧ Fr No w' w'') := fun w' h1 h2 => by
    have h := HFD.out a ao t w' h1 hit.2.1 h2
    rw [hsl] at h
    exact h
  rw [hgt]
  obtain ⟨Z, hZ⟩ : ∃ Z, node0I = Z := ⟨_, rfl⟩
  have vN := zeroNI
  rw [hZ] at vN
  have hz21 : Z.size = 21 := by rw [← hZ]; rfl
  have HFN : Hid (∀ q : Px, Bytes q.xs → Array.foldl (fun (cs : Array Value) (x : Value × Nat) => cs.setIfInBounds x.snd x.fst) Z (pfx q.b q.xs q.n).toArray.zipIdx 0 18 = (cellsOf q none .nil .nil).toArray) := fun q hq => by rw [← hZ]; exact fold_nodeI q hq
  have hb0 := heap_alloc_new w (.cells P 31)
  have hF0 := Fr.alloc No w (.cells P 31)
  have HB := Lib.hid (And.intro hb0 (And.intro hF0 (adr_part hBs hPA)))
  have HIT := Lib.hid hit
  have HSC := Lib.hid hsc
  have HSB := Lib.hid hsbn
  have HAU := Lib.hid hau
  have HU := Lib.hid (And.intro hwu (And.intro hbu (And.intro hsu hbn)))
  have HP0 := Lib.hid (And.intro hP0 (And.intro hp hP1))
  have q31 := Try.eqGuardType31
  clear hit hsc hsbn hwu hbu hsu hbn hau hP0 hB hPA hP1 hp hsubw hstop hgt hu hsl hb0 hF0 hT hao ht hZ
  go_enter Try.func37, Try.ntmps37
  have t3 := Try.underlying3
  have u3 := Try.runUnderlying3
  have g3 := Try.isAgg3
  have z3 := Try.sizeOf3
  have t4 := Try.underlying4
  have u4 := Try.runUnderlying4
  have g4 := Try.isAgg4
  have z4 := Try.sizeOf4
  have t9 := Try.underlying9
  have u9 := Try.runUnderlying9
  have g9 := Try.isAgg9
  have z9 := Try.sizeOf9
  have t29 := Try.underlying29
  have u29 := Try.runUnderlying29
  have g29 := Try.isAgg29
  have z29 := Try.sizeOf29
  have t31 := Try.underlying31
  have u31 := Try.runUnderlying31
  have g31 := Try.isAgg31
  have z31 := Try.sizeOf31
  have t73 := Try.underlying73
  have u73 := Try.runUnderlying73
  have g73 := Try.isAgg73
  have z73 := Try.sizeOf73
  have t81 := Try.underlying81
  have u81 := Try.runUnderlying81
  have g81 := Try.isAgg81
  have z81 := Try.sizeOf81
  have t79 := Try.underlying79
  have u79 := Try.runUnderlying79
  have g79 := Try.isAgg79
  have z79 := Try.sizeOf79
  have t84 := Try.underlying84
  have u84 := Try.runUnderlying84
  have g84 := Try.isAgg84
  have z84 := Try.sizeOf84
  have t24 := Try.underlying24
  have u24 := Try.runUnderlying24
  have g24 := Try.isAgg24
  have z24 := Try.sizeOf24
  have t78 := Try.underlying78
  have u78 := Try.runUnderlying78
  have g78 := Try.isAgg78
  have z78 := Try.sizeOf78
  have t75 := Try.underlying75
  have u75 := Try.runUnderlying75
  have g75 := Try.isAgg75
  have z75 := Try.sizeOf75
  have c40 := Try.call40
  have c42 := Try.call42
  have c63 := Try.call63
  have c62 := Try.call62
  have mixed : Try.prog.follows .mixedOrders = true := by kernel_rfl
  obtain ⟨k30, hk30⟩ : ∃ k, k = 17 := ⟨_, rfl⟩
  rw [← hk30] at z29
  have nk30 : ¬ k30 = 0 := by omega
  have HK29 := Lib.hid hk30
  obtain ⟨k40, hk40⟩ : ∃ k, k = 18 := ⟨_, rfl⟩
  rw [← hk40] at z31
  have nk40 : ¬ k40 = 0 := by omega
  have HK31 := Lib.hid hk40
  obtain ⟨k21, hk21⟩ : ∃ k, k = 21 := ⟨_, rfl⟩
  rw [← hk21] at z81
  have nk21 : ¬ k21 = 0 := by omega
  have HK81 := Lib.hid hk21
  have hP : Try.prog = PD := rfl
  rw [hP] at t3 u3 g3 z3 t4 u4 g4 z4 t9 u9 g9 z9 t29 u29 g29 z29 t31 u31 g31 z31 t73 u73 g73 z73 t81 u81 g81 z81 t79 u79 g79 z79 t84 u84 g84 z84 t24 u24 g24 z24 t78 u78 g78 z78 t75 u75 g75 z75 c40 c42 c63 c62 mixed q31 vN ⊢
  have HP := Lib.hid hP.symm
  clear hP hk30 hk40 hk21
  have hPk : P.size = k40 := by rw [HK31.out]; exact hPs
  have hBk : B.size = k30 := by rw [HK29.out]; exact hBs
  have hZk : Z.size = k21 := by rw [HK81.out]; exact hz21
  have i1 : k40 ≤ k21 := by rw [HK31.out, HK81.out]; decide
  have i3 : ¬ k21 < k40 := by rw [HK31.out, HK81.out]; decide
  have i2 : ¬ Z = #[] := by intro h; rw [h] at hz21; cases hz21
  clear hPs hBs hz21
  have HL : Hid (∀ w', Fr No (w.alloc (.cells P 31)) w' → Fr No (w.alloc (.cells P 31)) w' ∧ Sem.run PD (loadCellsFrom ⟨w.heap.size, 0, none⟩ 0 k40 #[]) w' = .ok P w' ∧ Sem.run PD (loadCellsFrom ⟨w.heap.size, 0, none⟩ 0 k30 #[]) w' = .ok B w') := fun w' hf => ⟨hf, load_block (hf.keep HB.out.1) hPk (fun j v hv => by simpa using hv), load_block (hf.keep HB.out.1) hBk HB.out.2.2⟩
  have f1 := HL.out _ (Fr.drew No _)
  have HFD0 : Hid (∀ w', Fr No w w' → Calls Try.prog 42 #[.pointer (some ⟨a, ao, none⟩), .agg P] w' fun e w'' => e = .returned (.pointer (some ⟨sb, so, none⟩)) ∧ Fr No w' w'') := fun w' hf => HF0.out w' (HIT.out.1.no hf) (hf.cell HIT.out.2.2.1)
  go_upto_region 1 with fail
  go_region_held3 (fun w' => Fr No (w.alloc (.cells P 31)) w' ∧ Sem.run PD (loadCellsFrom ⟨w.heap.size, 0, none⟩ 0 k40 #[]) w' = .ok P w' ∧ Sem.run PD (loadCellsFrom ⟨w.heap.size, 0, none⟩ 0 k30 #[]) w' = .ok B w') (first | assumption | exact HL.out _ K3 | exact HL.out _ K4) (first | (go_at_call 40; go_loud (refine (at_prog HP.out (HRT.out _)).mono ?_; rintro e w3 ⟨rfl, hf3⟩; have K3 : Fr No (w.alloc (.cells P 31)) w3 := Fr.trans (And.left (by assumption)) hf3)) | (go_at_call 42; go_loud (refine (at_prog HP.out (HFD0.out _ (HB.out.2.1.trans (And.left (by assumption))))).mono ?_; rintro e w4 ⟨rfl, hf4⟩; have K4 : Fr No (w.alloc (.cells P 31)) w4 := Fr.trans (And.left (by assumption)) hf4)))
  have W4 : Fr No w w4 := HB.out.2.1.trans K4
  have cs4 := (HSC.out w4 W4).1
  have HW4 := Lib.hid (And.intro W4 K4)
  clear hf3 K3 hf4 f1 W4 K4
  cases u with
  | nil =>
    rw [show rt Tr.nil = .pointer none from rfl] at cs4
    have lP := fun m => (HL.out (w4.drewN m) (HW4.out.2.trans (Fr.drewN _ _ _))).2.1
    go_wp2_with fail
    go_quiet (fail)
    rename Nat => nq
    obtain ⟨w5, hw5⟩ : ∃ w5, w4.drewN nq = w5 := ⟨_, rfl⟩
    rw [hw5]
    have h5 : Fr No w4 w5 := by rw [← hw5]; exact Fr.drewN _ _ _
    have W5 : Fr No w w5 := HW4.out.1.trans h5
    have lP5 := (HL.out w5 (HW4.out.2.trans h5)).2.1
    obtain ⟨CN, hCN⟩ : ∃ CN, (cellsOf p none .nil .nil).toArray = CN := ⟨_, rfl⟩
    have hfN : Array.foldl (fun (cs : Array Value) (x : Value × Nat) => cs.setIfInBounds x.snd x.fst) Z P.zipIdx 0 k40 = CN := by rw [HK31.out, ← HP0.out.1, ← hCN]; exact HFN.out p HP0.out.2.1.1
    obtain ⟨cs, T, hcs⟩ := HSB.out.2.2
    have W6 : Fr No w (w5.alloc (.cells CN 81)) := W5.trans (Fr.alloc _ _ _)
    have c5 : w5.cell? ⟨sb, so, none⟩ = some (.pointer none) := (HSC.out w5 W5).1
    have c6 : (w5.alloc (.cells CN 81)).cell? ⟨sb, so, none⟩ = some (.pointer none) := (HSC.out _ W6).1
    have z6 : (w5.alloc (.cells CN 81)).frozen? ⟨sb, so, none⟩ = false := frozen_of_row _ _ _ _ _ (W6.keep hcs)
    have HCN := Lib.hid (And.intro hCN (And.intro W5 W6))
    have hsb5 := HSB.out.2.1
    have hs5 := W5.size
    clear lP h5 W5 W6 hCN hw5 cs4
    go_wp2_with fail
    go_ret
    refine ⟨w5.heap.size, w5.heap.size, w5.heap.size + 1, rfl, hs5, by omega, by omega, HCN.out.2.2.no.trans (Fr.setCell _ _ _ _ rfl), fun v cs' T' h => setCell_same (HCN.out.2.2.keep h) _, .inl hs5, ⟨CN, (setCell_other _ (by omega)).trans (heap_alloc_new w5 _), ?_, ?_⟩, fun v w'' hk hC hv => ?_⟩
    · rw [← HCN.out.1, List.size_toArray]; exact cellsOf_length HP0.out.2.1.1 _ _ _
    · rw [← HCN.out.1]; exact (cellsOf_at HP0.out.2.1.1 none .nil .nil).1
    · have h1 := hC CN ((setCell_other _ (by omega)).trans (heap_alloc_new w5 _))
      rw [← HCN.out.1, cells_v HP0.out.2.1.1] at h1
      exact ⟨h1, hv, trivial, trivial⟩
  | node g q v l r =>
    have hwq : okP q := HU.out.1.1
    obtain ⟨K, hK, -, -, hKs, hKA, -⟩ := pfx_letter q.b q.xs q.n hwq.1
    obtain ⟨A, hA, -, hAs, -⟩ := adr_letter q.b q.xs hwq.1
    rw [hA] at hKA
    have hKk : K.size = k40 := by rw [HK31.out]; exact hKs
    have hAk : A.size = k30 := by rw [HK29.out]; exact hAs
    rw [show rt (Tr.node g q v l r) = .pointer (some ⟨g, 0, none⟩) from rfl] at cs4
    have HI4 : Hid (In 81 3 w4 (.node g q v l r)) := (HSC.out w4 HW4.out.1).2
    have HLG : Hid (∀ w', w'.heap[g]? = w4.heap[g]? → Sem.run PD (loadCellsFrom ⟨g, 0, none⟩ 0 k40 #[]) w' = .ok K w' ∧ Sem.run PD (loadCellsFrom ⟨g, 0, none⟩ 0 k30 #[]) w' = .ok A w') := fun w' h => ⟨load_block (h.trans HI4.out.1) hKk (fun j u hu => cellsOf_pfx j u (by rw [hK]; exact hu)), load_block (h.trans HI4.out.1) hAk (fun j u hu => cellsOf_pfx j u (by rw [hK]; exact hKA j u hu))⟩
    have hEQ : ∀ w', Sem.run PD (Op.equalIn 10000 31 (.agg K) (.agg P)) w' = .ok (decide (q = p)) w' := fun w' => by
      rw [HP.out, ← hK, ← HP0.out.1, pfx_eq q.n p.n hwq.1 HP0.out.2.1.1 w']
      congr 1
      exact decide_eq_decide.2 Px.eq_iff
    have lP := fun m => (HL.out (w4.drewN m) (HW4.out.2.trans (Fr.drewN _ _ _))).2.1
    have lq := fun m => (HLG.out (w4.drewN m) rfl).1
    have HKA := Lib.hid (And.intro hK (And.intro hA hwq))
    clear hK hA hKs hAs hKA hwq
    by_cases hqp : q = p
    · rw [decide_eq_true hqp] at hEQ
      have HQP := Lib.hid hqp
      clear hqp
      go_wp2_with fail
      go_quiet (fail)
      rename Nat => nq
      obtain ⟨w5, hw5⟩ : ∃ w5, w4.drewN nq = w5 := ⟨_, rfl⟩
      rw [hw5]
      have h5 : Fr No w4 w5 := by rw [← hw5]; exact Fr.drewN _ _ _
      have W5 : Fr No w w5 := HW4.out.1.trans h5
      have c5 : w5.cell? ⟨sb, so, none⟩ = some (.pointer (some ⟨g, 0, none⟩)) := (HSC.out w5 W5).1
      have HW5 := Lib.hid (And.intro W5 h5)
      clear lP lq hw5 cs4 h5 W5
      go_wp2_with fail
      go_ret
      have hiw := (HSC.out w5 HW5.out.1).2
      refine ⟨g, w5.heap.size, w5.heap.size + 1, rfl, HW5.out.1.size, by have := HW5.out.1.size; omega, by omega, HW5.out.1.no, fun v' cs' T' h => ?_, .inr List.mem_cons_self, ⟨_, hiw.1, ?_, ?_⟩, fun v' w'' hk hC hv => ?_⟩
      · have e : rt (top p v' w5.heap.size (w5.heap.size + 1) (.node g q v l r)) = rt (.node g q v l r) := by rw [top, if_pos HQP.out]; rfl
        rw [e, set_self (cell_heap h (HSC.out w (Fr.refl _ _)).1)]
        exact HW5.out.1.keep h
      · rw [List.size_toArray]; exact cellsOf_length HKA.out.2.2.1 _ _ _
      · rw [show getN p (.node g q v l r) = v from if_pos HQP.out]; exact (cellsOf_at HKA.out.2.2.1 v l r).1
      · rw [top, if_pos HQP.out]
        have hnd := HU.out.2.2.2
        obtain ⟨n1, n2, n3, n4, n5, n6, n7⟩ := nodup_parts hnd
        have h1 := hC _ hiw.1
        rw [cells_v HKA.out.2.2.1] at h1
        refine ⟨h1, hv, hiw.2.2.1.keep fun k hm => hk k (hiw.2.2.1.lt k hm) (fun hc => n2 (hc ▸ hm)) (fun hc => HSB.out.1 (hc ▸ blk_node.2 (.inr (.inr (.inl hm))))) (fun hc => HAU.out.1 (hc ▸ blk_node.2 (.inr (.inr (.inl hm))))), hiw.2.2.2.keep fun k hm => hk k (hiw.2.2.2.lt k hm) (fun hc => n3 (hc ▸ hm)) (fun hc => HSB.out.1 (hc ▸ blk_node.2 (.inr (.inr (.inr hm))))) (fun hc => HAU.out.1 (hc ▸ blk_node.2 (.inr (.inr (.inr hm)))))⟩
    · rw [decide_eq_false hqp] at hEQ
      have hcv : cov q p ≠ true := HU.out.2.2.1 g q v l r rfl hqp
      have hqb : q.b = p.b := HU.out.2.1 q List.mem_cons_self
      have hjw := fun jb => joint_wf (g1 := jb) HP0.out.2.1 HU.out.1 hqb hqp hcv
      have hcok : okP (com q p) := (hjw 0).2.2
      obtain ⟨CC, hCC, -, -, hCCs, -, -⟩ := pfx_letter (com q p).b (com q p).xs (com q p).n hcok.1
      have hCCk : CC.size = k40 := by rw [HK31.out]; exact hCCs
      have HCM : Hid (∀ w', Calls Try.prog 62 #[.agg K, .agg P] w' fun e w'' => e = .returned (.agg CC) ∧ Fr No w' w'') := fun w' => by rw [← HKA.out.1, ← HP0.out.1, ← hCC]; exact com_any q p HKA.out.2.2 HP0.out.2.1 hqb w'
      obtain ⟨J0, hJ0⟩ : ∃ J0, (cellsOf (com q p) none .nil .nil).toArray = J0 := ⟨_, rfl⟩
      have hfJ : Array.foldl (fun (cs : Array Value) (x : Value × Nat) => cs.setIfInBounds x.snd x.fst) Z CC.zipIdx 0 k40 = J0 := by rw [HK31.out, ← hCC, ← hJ0]; exact HFN.out (com q p) hcok.1
      have hJs : J0.size = k21 := by rw [HK81.out, ← hJ0, List.size_toArray]; exact cellsOf_length hcok.1 _ _ _
      have HLL : Hid (∀ w', Fr No w4 w' → Fr No w4 w' ∧ Sem.run PD (loadCellsFrom ⟨g, 0, none⟩ 0 k40 #[]) w' = .ok K w' ∧ Sem.run PD (loadCellsFrom ⟨w.heap.size, 0, none⟩ 0 k40 #[]) w' = .ok P w') := fun w' hf => ⟨hf, (HLG.out w' (hf.block g (some_lt HI4.out.1) (fun h => h))).1, (HL.out w' (HW4.out.2.trans hf)).2.1⟩
      have HQP := Lib.hid (And.intro hqp (And.intro hcv (And.intro hqb (And.intro hjw (And.intro hcok hJ0)))))
      have HI5 : Hid (∀ m, Fr No w4 (w4.drewN m)) := fun m => Fr.drewN _ _ _
      clear hqp hcv hqb hjw hcok hCC hCCs hJ0
      go_wp2_with fail
      go_quiet (fail)
      rename Nat => nq
      obtain ⟨w5, hw5⟩ : ∃ w5, w4.drewN nq = w5 := ⟨_, rfl⟩
      rw [hw5]
      have h5 : Fr No w4 w5 := by rw [← hw5]; exact Fr.drewN _ _ _
      have f5 := HLL.out _ (h5.trans (Fr.drew _ _))
      clear lP lq hw5 cs4
      go_wp2_with fail
      go_region_held3 (fun w' => Fr No w4 w' ∧ Sem.run PD (loadCellsFrom ⟨g, 0, none⟩ 0 k40 #[]) w' = .ok K w' ∧ Sem.run PD (loadCellsFrom ⟨w.heap.size, 0, none⟩ 0 k40 #[]) w' = .ok P w') (first | assumption | exact HLL.out _ K6 | exact HLL.out _ (K6.trans (Fr.alloc No _ _))) (first | (go_at_call 62; go_loud (refine (at_prog HP.out (HCM.out _)).mono ?_; rintro e w6 ⟨rfl, hf6⟩; have K6 : Fr No w4 w6 := Fr.trans (And.left (by assumption)) hf6)))
      -- joint
      obtain ⟨w7, hw7⟩ : ∃ w7, w6.alloc (.cells J0 81) = w7 := ⟨_, rfl⟩
      obtain ⟨jb, hjb⟩ : ∃ jb, w6.heap.size = jb := ⟨_, rfl⟩
      rw [hw7, hjb]
      have hJb : w7.heap[jb]? = some (.cells J0 81 (0, 0)) := by rw [← hw7, ← hjb]; exact heap_alloc_new w6 _
      have K7 : Fr No w4 w7 := by rw [← hw7]; exact K6.trans (Fr.alloc _ _ _)
      have hjlt : jb < w7.heap.size := some_lt hJb
      have hW6 : w4.heap.size ≤ jb := by rw [← hjb]; exact K6.size
      have hPB : w.heap.size < w4.heap.size := by
        have h1 := HW4.out.2.size
        have h2 := some_lt HB.out.1
        omega
      have HJB := Lib.hid (And.intro hJb (And.intro K7 (And.intro hW6 hPB)))
      have la7 := (HLG.out w7 (K7.block g (some_lt HI4.out.1) (fun h => h))).2
      have hpbs : w.heap.size < w4.heap.size := hPB
      have hjsb : sb < jb := by have := HSB.out.2.1; omega
      have hgjb : g < jb := by have := some_lt HI4.out.1; omega
      clear hJb K7 hfJ K6 hf6 f5 hEQ h5 hjb hw7
      obtain ⟨CN, hCN⟩ : ∃ CN, (cellsOf p none .nil .nil).toArray = CN := ⟨_, rfl⟩
      have hfN : Array.foldl (fun (cs : Array Value) (x : Value × Nat) => cs.setIfInBounds x.snd x.fst) Z P.zipIdx 0 k40 = CN := by rw [HK31.out, ← HP0.out.1, ← hCN]; exact HFN.out p HP0.out.2.1.1
      have hCNs : CN.size = k21 := by rw [HK81.out, ← hCN, List.size_toArray]; exact cellsOf_length HP0.out.2.1.1 _ _ _
      have HCN := Lib.hid hCN
      obtain ⟨cs, T, hcs⟩ := HSB.out.2.2
      have HCS := Lib.hid hcs
      clear hCN hcs
      cases hd : sideB (com q p) q.b q.xs
      · have HSD : Hid (∀ w', w'.heap[jb]? = some (.cells J0 81 (0, 0)) → Calls Try.prog 63 #[.pointer (some ⟨jb, 0, none⟩), .agg A] w' fun e w'' => e = .returned (.pointer (some ⟨jb, 19, none⟩)) ∧ Fr No w' w'') := fun w' h => by
          have h1 := sdI jb (com q p) none .nil .nil q.b q.xs HQP.out.2.2.2.2.1 HKA.out.2.2.1 w' (by rw [HQP.out.2.2.2.2.2]; exact h)
          rw [hd, if_neg (by decide), HKA.out.2.1] at h1
          exact h1
        have HJN : Hid (joint p jb g q v l r = .node jb (com q p) none (.node g q v l r) .nil) := by show _ = _; unfold joint fork; rw [hd, if_neg (by decide)]
        obtain ⟨JC, hJC⟩ : ∃ JC, (cellsOf (com q p) none (.node g q v l r) .nil).toArray = JC := ⟨_, rfl⟩
        have hJset : J0.setIfInBounds 19 (.pointer (some ⟨g, 0, none⟩)) = JC := by rw [← HQP.out.2.2.2.2.2, ← hJC]; exact cells_l HQP.out.2.2.2.2.1.1 none .nil .nil (.node g q v l r)
        have hJp : JC[20]? = some (.pointer none) := by rw [← hJC]; exact (cellsOf_at HQP.out.2.2.2.2.1.1 none _ _).2.2
        have hJv : JC[18]? = some (.pointer none) := by rw [← hJC]; exact (cellsOf_at HQP.out.2.2.2.2.1.1 none _ _).1
        have hJo : J0[19]? = some (.pointer none) := by rw [← HQP.out.2.2.2.2.2]; exact (cellsOf_at HQP.out.2.2.2.2.1.1 none .nil .nil).2.1
        have HJ := Lib.hid (And.intro hJC (And.intro hJp (And.intro hJv hJo)))
        have HDD := Lib.hid hd
        clear hJC hJp hJv hJo hd
        by_cases hcp : com q p = p
        · have HFJ : Hid (∀ w', In 81 3 w' (joint p jb g q v l r) → w'.cell? ⟨sb, so, none⟩ = some (.pointer (some ⟨jb, 0, none⟩)) → Calls Try.prog 42 #[.pointer (some ⟨sb, so, none⟩), .agg P] w' fun e w'' => e = .returned (.pointer (some ⟨sb, so, none⟩)) ∧ Fr No w' w'') := fun w' h1 h2 => by
            have h := HFD.out sb so _ w' h1 (HQP.out.2.2.2.1 jb).1 (by rw [HJN.out]; exact h2)
            rw [joint_here hcp, slotOf] at h
            exact h
          have HCP := Lib.hid hcp
          clear hcp
          go_wp2_with (first | (go_at_call 63; go_loud (refine (at_prog HP.out (HSD.out _ HJB.out.1)).mono ?_; rintro e w8 ⟨rfl, hf8⟩; have hb8 := hf8.keep HJB.out.1; have c8 := cell_of hb8 HJ.out.2.2.2; have z8 := frozen_of_row w8 jb 19 _ _ hb8; obtain ⟨w9, hw9⟩ : ∃ w9, w8.setCell ⟨jb, 19, none⟩ (.pointer (some ⟨g, 0, none⟩)) = w9 := ⟨_, rfl⟩; have F9 : Fr (fun k => k = jb) w4 w9 := (by rw [← hw9]; exact ((HJB.out.2.1.trans hf8).no).trans (Fr.setCell _ _ _ _ rfl)); have W9 : Fr No w w9 := HW4.out.1.ofNew F9 (fun k hk => .inr (by rw [hk]; have := HJB.out.2.2; omega)); have b9 : w9.heap[jb]? = some (.cells JC 81 (0, 0)) := (by rw [← hw9, setCell_same hb8, hJset]); have c9 : w9.cell? ⟨sb, so, none⟩ = some (.pointer (some ⟨g, 0, none⟩)) := (HSC.out w9 W9).1; have z9 := frozen_of_row w9 sb so _ _ (W9.keep HCS.out); obtain ⟨w10, hw10⟩ : ∃ w10, w9.setCell ⟨sb, so, none⟩ (.pointer (some ⟨jb, 0, none⟩)) = w10 := ⟨_, rfl⟩; have b10 : w10.heap[jb]? = some (.cells JC 81 (0, 0)) := (by rw [← hw10, setCell_other _ (by omega)]; exact b9); have F10 : Fr (fun k => k = jb ∨ k = sb) w4 w10 := (by rw [← hw10]; exact (F9.mono (fun k _ h => .inl h)).trans (Fr.setCell _ _ _ _ (.inr rfl))); have cc10 : w10.cell? ⟨sb, so, none⟩ = some (.pointer (some ⟨jb, 0, none⟩)) := (by rw [← hw10]; exact cell_of (setCell_same (W9.keep HCS.out) _) (by have := (Array.getElem?_eq_some_iff.1 (cell_heap (W9.keep HCS.out) c9)).1; rw [Array.getElem?_setIfInBounds_self_of_lt this])); have iu10 : In 81 3 w10 (.node g q v l r) := HI4.out.fr F10 (fun k hk hc => by rcases hc with hc | hc; (have := HI4.out.lt k hk; have := HJB.out.2.2; omega); exact HSB.out.1 (hc ▸ hk)); have ij10 : In 81 3 w10 (joint p jb g q v l r) := (by rw [HJN.out]; have hj := b10; rw [← HJ.out.1] at hj; have hin := iu10; exact ⟨hj, trivial, hin, trivial⟩); have lP10 : Sem.run PD (loadCellsFrom ⟨w.heap.size, 0, none⟩ 0 k40 #[]) w10 = .ok P w10 := load_block ((F10.block _ hpbs (fun hc => by rcases hc with hc | hc; omega; (have := HSB.out.2.1; omega))).trans (HW4.out.2.keep HB.out.1)) hPk (fun j u hu => by simpa using hu))) | (go_at_call 42; go_loud (refine (at_prog HP.out (HFJ.out _ ij10 cc10)).mono ?_; rintro e w11 ⟨rfl, hf11⟩; have cc11 := hf11.cell cc10)) | fail)
          go_ret
          have b11 := hf11.keep b10
          have iu11 := iu10.no hf11
          have F11 : Fr (fun k => k = sb) w w11 := by
            have h0 : Fr (fun k => k = sb) w w9 := W9.no
            have h1 : Fr (fun k => k = sb) w w10 := by rw [← hw10]; exact h0.trans (Fr.setCell _ _ _ _ rfl)
            exact h1.trans hf11.no
          have hwj : w.heap.size ≤ jb := by have := HJB.out.2.2; omega
          refine ⟨jb, jb, jb + 1, rfl, hwj, by omega, by omega, F11, fun v' cs' T' h => ?_, .inl hwj, ⟨JC, b11, ?_, ?_⟩, fun v' w'' hk hC hv => ?_⟩
          · have e : rt (top p v' jb (jb + 1) (.node g q v l r)) = .pointer (some ⟨jb, 0, none⟩) := by
              rw [top, if_neg HQP.out.1, if_pos HCP.out]; unfold fork; split <;> rfl
            rw [e]
            refine hf11.keep ?_
            rw [← hw10]
            exact setCell_same (W9.keep h) _
          · rw [← HJ.out.1, List.size_toArray]; exact cellsOf_length HQP.out.2.2.2.2.1.1 _ _ _
          · rw [show getN p (.node g q v l r) = none from if_neg HQP.out.1]; exact HJ.out.2.2.1
          · have h1 := hC _ b11
            rw [← HJ.out.1, cells_v HQP.out.2.2.2.2.1.1] at h1
            have hin : In 81 3 w'' (.node g q v l r) := iu11.keep fun k hm => hk k (iu11.lt k hm) (fun hc => by have := HI4.out.lt k hm; have := HJB.out.2.2; omega) (fun hc => HSB.out.1 (hc ▸ hm)) (fun hc => HAU.out.1 (hc ▸ hm))
            have hdd := HDD.out
            rw [HCP.out] at h1 hdd
            rw [top, if_neg HQP.out.1, if_pos HCP.out]
            unfold fork
            rw [hdd, if_neg (by decide)]
            have hj := h1
            exact ⟨hj, hv, hin, trivial⟩
        · have hjs := joint_side (g1 := jb) (g := g) (u := v) (l := l) (r := r) HP0.out.2.1 HKA.out.2.2 HQP.out.2.2.1 HQP.out.2.1 hcp
          have HFJ : Hid (∀ w', In 81 3 w' (joint p jb g q v l r) → w'.cell? ⟨sb, so, none⟩ = some (.pointer (some ⟨jb, 0, none⟩)) → Calls Try.prog 42 #[.pointer (some ⟨sb, so, none⟩), .agg P] w' fun e w'' => e = .returned (.pointer (some ⟨jb, 20, none⟩)) ∧ Fr No w' w'') := fun w' h1 h2 => by
            have h := HFD.out sb so _ w' h1 (HQP.out.2.2.2.1 jb).1 (by rw [HJN.out]; exact h2)
            rw [hjs.1, HJN.out, HDD.out, slotOf, if_pos (by decide), slotOf] at h
            exact h
          have HCP := Lib.hid hcp
          clear hcp hjs
          go_wp2_with (first | (go_at_call 63; go_loud (refine (at_prog HP.out (HSD.out _ HJB.out.1)).mono ?_; rintro e w8 ⟨rfl, hf8⟩; have hb8 := hf8.keep HJB.out.1; have c8 := cell_of hb8 HJ.out.2.2.2; have z8 := frozen_of_row w8 jb 19 _ _ hb8; obtain ⟨w9, hw9⟩ : ∃ w9, w8.setCell ⟨jb, 19, none⟩ (.pointer (some ⟨g, 0, none⟩)) = w9 := ⟨_, rfl⟩; have F9 : Fr (fun k => k = jb) w4 w9 := (by rw [← hw9]; exact ((HJB.out.2.1.trans hf8).no).trans (Fr.setCell _ _ _ _ rfl)); have W9 : Fr No w w9 := HW4.out.1.ofNew F9 (fun k hk => .inr (by rw [hk]; have := HJB.out.2.2; omega)); have b9 : w9.heap[jb]? = some (.cells JC 81 (0, 0)) := (by rw [← hw9, setCell_same hb8, hJset]); have c9 : w9.cell? ⟨sb, so, none⟩ = some (.pointer (some ⟨g, 0, none⟩)) := (HSC.out w9 W9).1; have z9 := frozen_of_row w9 sb so _ _ (W9.keep HCS.out); obtain ⟨w10, hw10⟩ : ∃ w10, w9.setCell ⟨sb, so, none⟩ (.pointer (some ⟨jb, 0, none⟩)) = w10 := ⟨_, rfl⟩; have b10 : w10.heap[jb]? = some (.cells JC 81 (0, 0)) := (by rw [← hw10, setCell_other _ (by omega)]; exact b9); have F10 : Fr (fun k => k = jb ∨ k = sb) w4 w10 := (by rw [← hw10]; exact (F9.mono (fun k _ h => .inl h)).trans (Fr.setCell _ _ _ _ (.inr rfl))); have cc10 : w10.cell? ⟨sb, so, none⟩ = some (.pointer (some ⟨jb, 0, none⟩)) := (by rw [← hw10]; exact cell_of (setCell_same (W9.keep HCS.out) _) (by have := (Array.getElem?_eq_some_iff.1 (cell_heap (W9.keep HCS.out) c9)).1; rw [Array.getElem?_setIfInBounds_self_of_lt this])); have iu10 : In 81 3 w10 (.node g q v l r) := HI4.out.fr F10 (fun k hk hc => by rcases hc with hc | hc; (have := HI4.out.lt k hk; have := HJB.out.2.2; omega); exact HSB.out.1 (hc ▸ hk)); have ij10 : In 81 3 w10 (joint p jb g q v l r) := (by rw [HJN.out]; have hj := b10; rw [← HJ.out.1] at hj; have hin := iu10; exact ⟨hj, trivial, hin, trivial⟩); have lP10 : Sem.run PD (loadCellsFrom ⟨w.heap.size, 0, none⟩ 0 k40 #[]) w10 = .ok P w10 := load_block ((F10.block _ hpbs (fun hc => by rcases hc with hc | hc; omega; (have := HSB.out.2.1; omega))).trans (HW4.out.2.keep HB.out.1)) hPk (fun j u hu => by simpa using hu))) | (go_at_call 42; go_loud (refine (at_prog HP.out (HFJ.out _ ij10 cc10)).mono ?_; rintro e w11 ⟨rfl, hf11⟩; have b11 := hf11.keep b10; have jj11 := cell_of b11 HJ.out.2.1; have lP11 : Sem.run PD (loadCellsFrom ⟨w.heap.size, 0, none⟩ 0 k40 #[]) w11 = .ok P w11 := load_block (((F10.trans hf11.no).block _ hpbs (fun hc => by rcases hc with hc | hc; omega; (have := HSB.out.2.1; omega))).trans (HW4.out.2.keep HB.out.1)) hPk (fun j u hu => by simpa using hu); have b12 := (Fr.alloc No w11 (.cells CN 81)).keep b11; have jj12 := cell_of b12 HJ.out.2.1; have z12 := frozen_of_row (w11.alloc (.cells CN 81)) jb 20 _ _ b12)) | fail)
          go_ret
          have iu11 := iu10.no hf11
          have F11 : Fr (fun k => k = sb) w w11 := by
            have h0 : Fr (fun k => k = sb) w w9 := W9.no
            have h1 : Fr (fun k => k = sb) w w10 := by rw [← hw10]; exact h0.trans (Fr.setCell _ _ _ _ rfl)
            exact h1.trans hf11.no
          have hwj : w.heap.size ≤ jb := by have := HJB.out.2.2; omega
          obtain ⟨nb, hnb⟩ : ∃ nb, w11.heap.size = nb := ⟨_, rfl⟩
          have hjn : jb < nb := by rw [← hnb]; exact some_lt b11
          rw [hnb]
          obtain ⟨w13, hw13⟩ : ∃ w13, (w11.alloc (.cells CN 81)).setCell ⟨jb, 20, none⟩ (.pointer (some ⟨nb, 0, none⟩)) = w13 := ⟨_, rfl⟩
          rw [hw13]
          have F13 : Fr (fun k => k = jb) w11 w13 := by rw [← hw13]; exact (Fr.alloc _ _ _).trans (Fr.setCell _ _ _ _ rfl)
          have N13 : w13.heap[nb]? = some (.cells CN 81 (0, 0)) := by rw [← hw13, setCell_other _ (by omega), ← hnb]; exact heap_alloc_new w11 _
          have J13 : w13.heap[jb]? = some (.cells (JC.setIfInBounds 20 (.pointer (some ⟨nb, 0, none⟩))) 81 (0, 0)) := by rw [← hw13]; exact setCell_same b12 _
          have iu13 : In 81 3 w13 (.node g q v l r) := iu11.fr F13 fun k hm hc => by have := HI4.out.lt k hm; have := HJB.out.2.2; omega
          refine ⟨nb, jb, nb, rfl, hwj, by omega, by omega, F11.ofNew F13 (fun k hk => .inr (by omega)), fun v' cs' T' h => ?_, .inl (by omega), ⟨CN, N13, ?_, ?_⟩, fun v' w'' hk hC hv => ?_⟩
          · have e : rt (top p v' jb nb (.node g q v l r)) = .pointer (some ⟨jb, 0, none⟩) := by
              rw [top, if_neg HQP.out.1, if_neg HCP.out]; unfold fork; split <;> rfl
            rw [e, F13.block sb (by have := some_lt h; have := F11.size; omega) (by omega)]
            refine hf11.keep ?_
            rw [← hw10]
            exact setCell_same (W9.keep h) _
          · rw [← HCN.out, List.size_toArray]; exact cellsOf_length HP0.out.2.1.1 _ _ _
          · rw [show getN p (.node g q v l r) = none from if_neg HQP.out.1, ← HCN.out]; exact (cellsOf_at HP0.out.2.1.1 none .nil .nil).1
          · have h1 := hC _ N13
            rw [← HCN.out, cells_v HP0.out.2.1.1] at h1
            have hin : In 81 3 w'' (.node g q v l r) := iu13.keep fun k hm => hk k (iu13.lt k hm) (fun hc => by have := HI4.out.lt k hm; have := HJB.out.2.2; omega) (fun hc => HSB.out.1 (hc ▸ hm)) (fun hc => HAU.out.1 (hc ▸ hm))
            have hj0 : w''.heap[jb]? = some (.cells (cellsOf (com q p) none (.node g q v l r) (.node nb p none .nil .nil)).toArray 81 (0, 0)) := by
              rw [hk jb (some_lt J13) (by omega) (by omega) (by have := HAU.out.2; omega), J13, ← HJ.out.1]
              exact congrArg (fun c => some (Obj.cells c 81 (0, 0))) (cells_r HQP.out.2.2.2.2.1.1 none _ _ (.node nb p none .nil .nil))
            rw [top, if_neg HQP.out.1, if_neg HCP.out]
            unfold fork
            rw [HDD.out, if_neg (by decide)]
            have hj : w''.heap[jb]? = some (.cells (cellsOf (com q p) none (.node g q v l r) (.node nb p (some v') .nil .nil)).toArray 81 (0, 0)) := hj0
            exact ⟨hj, trivial, hin, ⟨h1, hv, trivial, trivial⟩⟩
      · have HSD : Hid (∀ w', w'.heap[jb]? = some (.cells J0 81 (0, 0)) → Calls Try.prog 63 #[.pointer (some ⟨jb, 0, none⟩), .agg A] w' fun e w'' => e = .returned (.pointer (some ⟨jb, 20, none⟩)) ∧ Fr No w' w'') := fun w' h => by
          have h1 := sdI jb (com q p) none .nil .nil q.b q.xs HQP.out.2.2.2.2.1 HKA.out.2.2.1 w' (by rw [HQP.out.2.2.2.2.2]; exact h)
          rw [hd, if_pos rfl, HKA.out.2.1] at h1
          exact h1
        have HJN : Hid (joint p jb g q v l r = .node jb (com q p) none .nil (.node g q v l r)) := by show _ = _; unfold joint fork; rw [hd, if_pos rfl]
        obtain ⟨JC, hJC⟩ : ∃ JC, (cellsOf (com q p) none .nil (.node g q v l r)).toArray = JC := ⟨_, rfl⟩
        have hJset : J0.setIfInBounds 20 (.pointer (some ⟨g, 0, none⟩)) = JC := by rw [← HQP.out.2.2.2.2.2, ← hJC]; exact cells_r HQP.out.2.2.2.2.1.1 none .nil .nil (.node g q v l r)
        have hJp : JC[19]? = some (.pointer none) := by rw [← hJC]; exact (cellsOf_at HQP.out.2.2.2.2.1.1 none _ _).2.1
        have hJv : JC[18]? = some (.pointer none) := by rw [← hJC]; exact (cellsOf_at HQP.out.2.2.2.2.1.1 none _ _).1
        have hJo : J0[20]? = some (.pointer none) := by rw [← HQP.out.2.2.2.2.2]; exact (cellsOf_at HQP.out.2.2.2.2.1.1 none .nil .nil).2.2
        have HJ := Lib.hid (And.intro hJC (And.intro hJp (And.intro hJv hJo)))
        have HDD := Lib.hid hd
        clear hJC hJp hJv hJo hd
        by_cases hcp : com q p = p
        · have HFJ : Hid (∀ w', In 81 3 w' (joint p jb g q v l r) → w'.cell? ⟨sb, so, none⟩ = some (.pointer (some ⟨jb, 0, none⟩)) → Calls Try.prog 42 #[.pointer (some ⟨sb, so, none⟩), .agg P] w' fun e w'' => e = .returned (.pointer (some ⟨sb, so, none⟩)) ∧ Fr No w' w'') := fun w' h1 h2 => by
            have h := HFD.out sb so _ w' h1 (HQP.out.2.2.2.1 jb).1 (by rw [HJN.out]; exact h2)
            rw [joint_here hcp, slotOf] at h
            exact h
          have HCP := Lib.hid hcp
          clear hcp
          go_wp2_with (first | (go_at_call 63; go_loud (refine (at_prog HP.out (HSD.out _ HJB.out.1)).mono ?_; rintro e w8 ⟨rfl, hf8⟩; have hb8 := hf8.keep HJB.out.1; have c8 := cell_of hb8 HJ.out.2.2.2; have z8 := frozen_of_row w8 jb 20 _ _ hb8; obtain ⟨w9, hw9⟩ : ∃ w9, w8.setCell ⟨jb, 20, none⟩ (.pointer (some ⟨g, 0, none⟩)) = w9 := ⟨_, rfl⟩; have F9 : Fr (fun k => k = jb) w4 w9 := (by rw [← hw9]; exact ((HJB.out.2.1.trans hf8).no).trans (Fr.setCell _ _ _ _ rfl)); have W9 : Fr No w w9 := HW4.out.1.ofNew F9 (fun k hk => .inr (by rw [hk]; have := HJB.out.2.2; omega)); have b9 : w9.heap[jb]? = some (.cells JC 81 (0, 0)) := (by rw [← hw9, setCell_same hb8, hJset]); have c9 : w9.cell? ⟨sb, so, none⟩ = some (.pointer (some ⟨g, 0, none⟩)) := (HSC.out w9 W9).1; have z9 := frozen_of_row w9 sb so _ _ (W9.keep HCS.out); obtain ⟨w10, hw10⟩ : ∃ w10, w9.setCell ⟨sb, so, none⟩ (.pointer (some ⟨jb, 0, none⟩)) = w10 := ⟨_, rfl⟩; have b10 : w10.heap[jb]? = some (.cells JC 81 (0, 0)) := (by rw [← hw10, setCell_other _ (by omega)]; exact b9); have F10 : Fr (fun k => k = jb ∨ k = sb) w4 w10 := (by rw [← hw10]; exact (F9.mono (fun k _ h => .inl h)).trans (Fr.setCell _ _ _ _ (.inr rfl))); have cc10 : w10.cell? ⟨sb, so, none⟩ = some (.pointer (some ⟨jb, 0, none⟩)) := (by rw [← hw10]; exact cell_of (setCell_same (W9.keep HCS.out) _) (by have := (Array.getElem?_eq_some_iff.1 (cell_heap (W9.keep HCS.out) c9)).1; rw [Array.getElem?_setIfInBounds_self_of_lt this])); have iu10 : In 81 3 w10 (.node g q v l r) := HI4.out.fr F10 (fun k hk hc => by rcases hc with hc | hc; (have := HI4.out.lt k hk; have := HJB.out.2.2; omega); exact HSB.out.1 (hc ▸ hk)); have ij10 : In 81 3 w10 (joint p jb g q v l r) := (by rw [HJN.out]; have hj := b10; rw [← HJ.out.1] at hj; have hin := iu10; exact ⟨hj, trivial, trivial, hin⟩); have lP10 : Sem.run PD (loadCellsFrom ⟨w.heap.size, 0, none⟩ 0 k40 #[]) w10 = .ok P w10 := load_block ((F10.block _ hpbs (fun hc => by rcases hc with hc | hc; omega; (have := HSB.out.2.1; omega))).trans (HW4.out.2.keep HB.out.1)) hPk (fun j u hu => by simpa using hu))) | (go_at_call 42; go_loud (refine (at_prog HP.out (HFJ.out _ ij10 cc10)).mono ?_; rintro e w11 ⟨rfl, hf11⟩; have cc11 := hf11.cell cc10)) | fail)
          go_ret
          have b11 := hf11.keep b10
          have iu11 := iu10.no hf11
          have F11 : Fr (fun k => k = sb) w w11 := by
            have h0 : Fr (fun k => k = sb) w w9 := W9.no
            have h1 : Fr (fun k => k = sb) w w10 := by rw [← hw10]; exact h0.trans (Fr.setCell _ _ _ _ rfl)
            exact h1.trans hf11.no
          have hwj : w.heap.size ≤ jb := by have := HJB.out.2.2; omega
          refine ⟨jb, jb, jb + 1, rfl, hwj, by omega, by omega, F11, fun v' cs' T' h => ?_, .inl hwj, ⟨JC, b11, ?_, ?_⟩, fun v' w'' hk hC hv => ?_⟩
          · have e : rt (top p v' jb (jb + 1) (.node g q v l r)) = .pointer (some ⟨jb, 0, none⟩) := by
              rw [top, if_neg HQP.out.1, if_pos HCP.out]; unfold fork; split <;> rfl
            rw [e]
            refine hf11.keep ?_
            rw [← hw10]
            exact setCell_same (W9.keep h) _
          · rw [← HJ.out.1, List.size_toArray]; exact cellsOf_length HQP.out.2.2.2.2.1.1 _ _ _
          · rw [show getN p (.node g q v l r) = none from if_neg HQP.out.1]; exact HJ.out.2.2.1
          · have h1 := hC _ b11
            rw [← HJ.out.1, cells_v HQP.out.2.2.2.2.1.1] at h1
            have hin : In 81 3 w'' (.node g q v l r) := iu11.keep fun k hm => hk k (iu11.lt k hm) (fun hc => by have := HI4.out.lt k hm; have := HJB.out.2.2; omega) (fun hc => HSB.out.1 (hc ▸ hm)) (fun hc => HAU.out.1 (hc ▸ hm))
            have hdd := HDD.out
            rw [HCP.out] at h1 hdd
            rw [top, if_neg HQP.out.1, if_pos HCP.out]
            unfold fork
            rw [hdd, if_pos rfl]
            have hj := h1
            exact ⟨hj, hv, trivial, hin⟩
        · have hjs := joint_side (g1 := jb) (g := g) (u := v) (l := l) (r := r) HP0.out.2.1 HKA.out.2.2 HQP.out.2.2.1 HQP.out.2.1 hcp
          have HFJ : Hid (∀ w', In 81 3 w' (joint p jb g q v l r) → w'.cell? ⟨sb, so, none⟩ = some (.pointer (some ⟨jb, 0, none⟩)) → Calls Try.prog 42 #[.pointer (some ⟨sb, so, none⟩), .agg P] w' fun e w'' => e = .returned (.pointer (some ⟨jb, 19, none⟩)) ∧ Fr No w' w'') := fun w' h1 h2 => by
            have h := HFD.out sb so _ w' h1 (HQP.out.2.2.2.1 jb).1 (by rw [HJN.out]; exact h2)
            rw [hjs.1, HJN.out, HDD.out, slotOf, if_neg (by decide), slotOf] at h
            exact h
          have HCP := Lib.hid hcp
          clear hcp hjs
          go_wp2_with (first | (go_at_call 63; go_loud (refine (at_prog HP.out (HSD.out _ HJB.out.1)).mono ?_; rintro e w8 ⟨rfl, hf8⟩; have hb8 := hf8.keep HJB.out.1; have c8 := cell_of hb8 HJ.out.2.2.2; have z8 := frozen_of_row w8 jb 20 _ _ hb8; obtain ⟨w9, hw9⟩ : ∃ w9, w8.setCell ⟨jb, 20, none⟩ (.pointer (some ⟨g, 0, none⟩)) = w9 := ⟨_, rfl⟩; have F9 : Fr (fun k => k = jb) w4 w9 := (by rw [← hw9]; exact ((HJB.out.2.1.trans hf8).no).trans (Fr.setCell _ _ _ _ rfl)); have W9 : Fr No w w9 := HW4.out.1.ofNew F9 (fun k hk => .inr (by rw [hk]; have := HJB.out.2.2; omega)); have b9 : w9.heap[jb]? = some (.cells JC 81 (0, 0)) := (by rw [← hw9, setCell_same hb8, hJset]); have c9 : w9.cell? ⟨sb, so, none⟩ = some (.pointer (some ⟨g, 0, none⟩)) := (HSC.out w9 W9).1; have z9 := frozen_of_row w9 sb so _ _ (W9.keep HCS.out); obtain ⟨w10, hw10⟩ : ∃ w10, w9.setCell ⟨sb, so, none⟩ (.pointer (some ⟨jb, 0, none⟩)) = w10 := ⟨_, rfl⟩; have b10 : w10.heap[jb]? = some (.cells JC 81 (0, 0)) := (by rw [← hw10, setCell_other _ (by omega)]; exact b9); have F10 : Fr (fun k => k = jb ∨ k = sb) w4 w10 := (by rw [← hw10]; exact (F9.mono (fun k _ h => .inl h)).trans (Fr.setCell _ _ _ _ (.inr rfl))); have cc10 : w10.cell? ⟨sb, so, none⟩ = some (.pointer (some ⟨jb, 0, none⟩)) := (by rw [← hw10]; exact cell_of (setCell_same (W9.keep HCS.out) _) (by have := (Array.getElem?_eq_some_iff.1 (cell_heap (W9.keep HCS.out) c9)).1; rw [Array.getElem?_setIfInBounds_self_of_lt this])); have iu10 : In 81 3 w10 (.node g q v l r) := HI4.out.fr F10 (fun k hk hc => by rcases hc with hc | hc; (have := HI4.out.lt k hk; have := HJB.out.2.2; omega); exact HSB.out.1 (hc ▸ hk)); have ij10 : In 81 3 w10 (joint p jb g q v l r) := (by rw [HJN.out]; have hj := b10; rw [← HJ.out.1] at hj; have hin := iu10; exact ⟨hj, trivial, trivial, hin⟩); have lP10 : Sem.run PD (loadCellsFrom ⟨w.heap.size, 0, none⟩ 0 k40 #[]) w10 = .ok P w10 := load_block ((F10.block _ hpbs (fun hc => by rcases hc with hc | hc; omega; (have := HSB.out.2.1; omega))).trans (HW4.out.2.keep HB.out.1)) hPk (fun j u hu => by simpa using hu))) | (go_at_call 42; go_loud (refine (at_prog HP.out (HFJ.out _ ij10 cc10)).mono ?_; rintro e w11 ⟨rfl, hf11⟩; have b11 := hf11.keep b10; have jj11 := cell_of b11 HJ.out.2.1; have lP11 : Sem.run PD (loadCellsFrom ⟨w.heap.size, 0, none⟩ 0 k40 #[]) w11 = .ok P w11 := load_block (((F10.trans hf11.no).block _ hpbs (fun hc => by rcases hc with hc | hc; omega; (have := HSB.out.2.1; omega))).trans (HW4.out.2.keep HB.out.1)) hPk (fun j u hu => by simpa using hu); have b12 := (Fr.alloc No w11 (.cells CN 81)).keep b11; have jj12 := cell_of b12 HJ.out.2.1; have z12 := frozen_of_row (w11.alloc (.cells CN 81)) jb 19 _ _ b12)) | fail)
          go_ret
          have iu11 := iu10.no hf11
          have F11 : Fr (fun k => k = sb) w w11 := by
            have h0 : Fr (fun k => k = sb) w w9 := W9.no
            have h1 : Fr (fun k => k = sb) w w10 := by rw [← hw10]; exact h0.trans (Fr.setCell _ _ _ _ rfl)
            exact h1.trans hf11.no
          have hwj : w.heap.size ≤ jb := by have := HJB.out.2.2; omega
          obtain ⟨nb, hnb⟩ : ∃ nb, w11.heap.size = nb := ⟨_, rfl⟩
          have hjn : jb < nb := by rw [← hnb]; exact some_lt b11
          rw [hnb]
          obtain ⟨w13, hw13⟩ : ∃ w13, (w11.alloc (.cells CN 81)).setCell ⟨jb, 19, none⟩ (.pointer (some ⟨nb, 0, none⟩)) = w13 := ⟨_, rfl⟩
          rw [hw13]
          have F13 : Fr (fun k => k = jb) w11 w13 := by rw [← hw13]; exact (Fr.alloc _ _ _).trans (Fr.setCell _ _ _ _ rfl)
          have N13 : w13.heap[nb]? = some (.cells CN 81 (0, 0)) := by rw [← hw13, setCell_other _ (by omega), ← hnb]; exact heap_alloc_new w11 _
          have J13 : w13.heap[jb]? = some (.cells (JC.setIfInBounds 19 (.pointer (some ⟨nb, 0, none⟩))) 81 (0, 0)) := by rw [← hw13]; exact setCell_same b12 _
          have iu13 : In 81 3 w13 (.node g q v l r) := iu11.fr F13 fun k hm hc => by have := HI4.out.lt k hm; have := HJB.out.2.2; omega
          refine ⟨nb, jb, nb, rfl, hwj, by omega, by omega, F11.ofNew F13 (fun k hk => .inr (by omega)), fun v' cs' T' h => ?_, .inl (by omega), ⟨CN, N13, ?_, ?_⟩, fun v' w'' hk hC hv => ?_⟩
          · have e : rt (top p v' jb nb (.node g q v l r)) = .pointer (some ⟨jb, 0, none⟩) := by
              rw [top, if_neg HQP.out.1, if_neg HCP.out]; unfold fork; split <;> rfl
            rw [e, F13.block sb (by have := some_lt h; have := F11.size; omega) (by omega)]
            refine hf11.keep ?_
            rw [← hw10]
            exact setCell_same (W9.keep h) _
          · rw [← HCN.out, List.size_toArray]; exact cellsOf_length HP0.out.2.1.1 _ _ _
          · rw [show getN p (.node g q v l r) = none from if_neg HQP.out.1, ← HCN.out]; exact (cellsOf_at HP0.out.2.1.1 none .nil .nil).1
          · have h1 := hC _ N13
            rw [← HCN.out, cells_v HP0.out.2.1.1] at h1
            have hin : In 81 3 w'' (.node g q v l r) := iu13.keep fun k hm => hk k (iu13.lt k hm) (fun hc => by have := HI4.out.lt k hm; have := HJB.out.2.2; omega) (fun hc => HSB.out.1 (hc ▸ hm)) (fun hc => HAU.out.1 (hc ▸ hm))
            have hj0 : w''.heap[jb]? = some (.cells (cellsOf (com q p) none (.node nb p none .nil .nil) (.node g q v l r)).toArray 81 (0, 0)) := by
              rw [hk jb (some_lt J13) (by omega) (by omega) (by have := HAU.out.2; omega), J13, ← HJ.out.1]
              exact congrArg (fun c => some (Obj.cells c 81 (0, 0))) (cells_l HQP.out.2.2.2.2.1.1 none _ _ (.node nb p none .nil .nil))
            rw [top, if_neg HQP.out.1, if_neg HCP.out]
            unfold fork
            rw [HDD.out, if_pos rfl]
            have hj : w''.heap[jb]? = some (.cells (cellsOf (com q p) none (.node nb p (some v') .nil .nil) (.node g q v l r)).toArray 81 (0, 0)) := hj0
            exact ⟨hj, trivial, ⟨h1, hv, trivial, trivial⟩, hin⟩
end Go.Proofs.Ytnbohhiooigmbaa
