/-
  CONTRACTS of the reference's parseIPv4, over this seat's translation: what the call returns.
  Conditions: the string is shorter than 2 to the 31.
-/
import Derived.Test.YtmhnailcmlomiaaGreatDoorR2
import Derived.Test.YtmhnailcmlomiaaGreatDoorP2
namespace Go.Proofs.YtmhnailcmlomiaaGreatDoor
open Go.ChangeShapes Go.WideShapes Go.ChangeAt Go.RowKit
set_option linter.unusedVariables false

/-- The sixteen bytes when the first numbers have been written. -/
def qpart (ns : List Nat) : List Nat := ns ++ List.replicate (16 - ns.length) 0
theorem qpart_nil : qpart [] = zeros := rfl
theorem qpart_length {ns : List Nat} (h : ns.length ≤ 16) : (qpart ns).length = 16 := by rw [qpart, List.length_append, List.length_replicate]; omega
theorem qpart_set {ns : List Nat} {x : Nat} (h : ns.length < 16) : (qpart ns).set ns.length x = qpart (ns ++ [x]) := by
  rw [qpart, qpart, List.set_append_right _ _ (Nat.le_refl _), Nat.sub_self, List.length_append, show 16 - ns.length = (16 - (ns.length + 1)) + 1 by omega, List.replicate_succ, List.set_cons_zero]
  simp
theorem qpart_quad {ns : List Nat} (h : ns.length = 4) : qpart ns = quad (some ns) := by
  match ns, h with
  | [a, b, c, d], _ => rfl

theorem strs_at {w : World} {a : Option Addr} {xs : List ByteArray} {i : Nat} {x : ByteArray} (h : At w a (strs xs)) (hx : xs[i]? = some x) : ∃ b off, a = some ⟨b, off, none⟩ ∧ w.cell? ⟨b, off + i, none⟩ = some (.string x) := h i _ (strs_get hx)

set_option maxHeartbeats 4000000 in
set_option maxRecDepth 100000 in
theorem pipv4_ref (l : List UInt8) (hl : l.length < 2147483648) (w : World) :
    Calls Tryz.prog 76 #[.string (bs l)] w fun e w' => e = .returned (.tuple #[.agg (adr false (quad (par 3 l))).toArray, .bool (isQ (par 3 l))]) ∧ Fr No w w' := by
  have v24 := zero30
  obtain ⟨Z, hZ⟩ : ∃ Z : Array Value, (adr false zeros).toArray = Z := ⟨_, rfl⟩
  rw [hZ] at v24
  have hz1 : Z.size = 17 ∧ ∀ u ∈ Z.toList, u.oneCell' = true := ⟨by rw [← hZ]; rfl, by rw [← hZ]; exact adr_one _ _⟩
  have hb0 := heap_alloc_new w (.cells Z 30)
  have hF0 := Fr.alloc No w (.cells Z 30)
  generalize hw0 : w.alloc (.cells Z 30) = w0 at hb0 hF0
  obtain ⟨n, hn⟩ : ∃ n, w.heap.size = n := ⟨_, rfl⟩
  rw [hn] at hb0
  have HN := Lib.hid (And.intro hn (And.intro hF0 hb0))
  have HSP := Lib.hid (fun w => split_ref l 46 hl w)
  have HPD : Hid (∀ (p : List UInt8) (w : World), Calls Tryz.prog 70 #[.string (bs p), .int .i64 255] w fun e w' => e = .returned (.int .i64 (decI (decV p))) ∧ w' = w) := fun p w => by
    have := pdec_ref p 255 w
    rw [← decV_decR] at this
    exact this
  have HPS := Lib.hid (par_split 3 l)
  have HZ := Lib.hid (And.intro hZ hz1)
  generalize bs l = s at HSP ⊢
  clear hb0 hF0 hZ
  go_enter Tryz.func76, Tryz.ntmps76
  have t3 := Tryz.underlying3
  have u3 := Tryz.runUnderlying3
  have g3 := Tryz.isAgg3
  have z3 := Tryz.sizeOf3
  have t4 := Tryz.underlying4
  have u4 := Tryz.runUnderlying4
  have g4 := Tryz.isAgg4
  have z4 := Tryz.sizeOf4
  have t5 := Tryz.underlying5
  have u5 := Tryz.runUnderlying5
  have g5 := Tryz.isAgg5
  have z5 := Tryz.sizeOf5
  have t9 := Tryz.underlying9
  have u9 := Tryz.runUnderlying9
  have g9 := Tryz.isAgg9
  have z9 := Tryz.sizeOf9
  have t28 := Tryz.underlying28
  have u28 := Tryz.runUnderlying28
  have g28 := Tryz.isAgg28
  have z28 := Tryz.sizeOf28
  have t30 := Tryz.underlying30
  have u30 := Tryz.runUnderlying30
  have g30 := Tryz.isAgg30
  have z30 := Tryz.sizeOf30
  have t75 := Tryz.underlying75
  have u75 := Tryz.runUnderlying75
  have g75 := Tryz.isAgg75
  have z75 := Tryz.sizeOf75
  have c68 := Tryz.call68
  have c70 := Tryz.call70
  have mixed : Tryz.prog.follows .mixedOrders = true := by kernel_rfl
  obtain ⟨k24, hk24⟩ : ∃ k, k = 17 := ⟨_, rfl⟩
  rw [← hk24] at z30
  have nk24 : ¬ k24 = 0 := by omega
  have HK30 := Lib.hid hk24
  have hP : Tryz.prog = PD := rfl
  rw [hP] at t3 u3 g3 z3 t4 u4 g4 z4 t5 u5 g5 z5 t9 u9 g9 z9 t28 u28 g28 z28 t30 u30 g30 z30 t75 u75 g75 z75 c68 c70 mixed v24 ⊢
  have HP := Lib.hid hP.symm
  clear hP hk24
  have hzk : Z.size = k24 := by rw [HK30.out]; exact hz1.1
  clear hz1
  go_wp2_with fail
  clear hw0 hn
  refine (at_prog HP.out (HSP.out w0)).mono ?_
  rintro e w1 ⟨a, cap, rfl, hown, hf⟩
  have hat := At.own hown
  have hne := split_ne 46 l
  generalize hps : splitc 46 l = ps at hown hat HPS hne ⊢
  generalize hpl : ps.length = k at hown ⊢
  have HPL := Lib.hid hpl
  obtain ⟨y, hst, hyb, hyf⟩ := store_all (P := PD) Z.toList (heap_alloc_new w1 (.cells Z 30)) (by rw [Array.length_toList]) HZ.out.2.2
  have HY : Hid (Fr No w y ∧ y.heap[n]? = some (.cells Z 30 (0, 0)) ∧ y.heap[w1.heap.size]? = some (.cells Z 30 (0, 0)) ∧ n < w1.heap.size ∧ At y a (strs (ps.map bs)) ∧ ∀ ad, a = some ad → ad.block < w1.heap.size) := by
    have h1 := hf.keep HN.out.2.2
    have hlt := (Array.getElem?_eq_some_iff.1 h1).1
    have hf2 := hf.trans (Fr.alloc No w1 (.cells Z 30))
    have h2 := hf2.keep HN.out.2.2
    have hal : ∀ ad, a = some ad → ad.block < w1.heap.size := fun ad had => by
      subst had
      have h0 : 0 < (strs (ps.map bs)).length := by rw [strs_length, List.length_map]; exact List.length_pos_iff.2 hne
      exact hat.lt h0
    refine ⟨((HN.out.2.1.trans hf).trans (Fr.alloc No w1 (.cells Z 30))).ofNew hyf fun k hk => .inr ?_, ?_, by simpa using hyb, hlt, ?_, hal⟩
    · rw [hk]; exact Nat.le_trans HN.out.2.1.size hf.size
    · exact (hyf.block _ (Array.getElem?_eq_some_iff.1 h2).1 (by omega)).trans h2
    · exact (hat.frNo (Fr.alloc No w1 (.cells Z 30))).fr hyf (fun ad had hk => by have := hal ad had; omega)
  have HSTO : Hid (∀ (V : List Value) (w3 : World), V.length = 17 → (∀ u ∈ V, u.oneCell' = true) → Fr (fun k => k = w1.heap.size) y w3 → ∃ y', Sem.run PD (storeCells ⟨n, 0, none⟩ V 0) w3 = .ok () y' ∧ y'.heap[n]? = some (.cells V.toArray 30 (0, 0)) ∧ Fr No w y') := fun V w3 hv h1 hf => by
    have hnm := HY.out.2.2.2.1
    have hbn := (hf.block _ (Array.getElem?_eq_some_iff.1 HY.out.2.1).1 (by omega)).trans HY.out.2.1
    obtain ⟨y', h2, h3, h4⟩ := store_all (P := PD) V hbn (by rw [hv, HZ.out.2.1]) h1
    refine ⟨y', h2, h3, (HY.out.1.ofNew hf fun k hk => .inr ?_).ofNew h4 fun k hk => .inr ?_⟩
    · rw [hk, HN.out.1]; omega
    · rw [hk, HN.out.1]; exact Nat.le_refl _
  clear hown hat hf hyb hyf hpl hne
  by_cases hk4 : k = 4
  · subst hk4
    obtain ⟨p0, hp0⟩ : ∃ p0, ps[0]? = some p0 := ⟨_, List.getElem?_eq_getElem (by rw [HPL.out]; omega)⟩
    obtain ⟨ab, ao, rfl, -⟩ := strs_at (i := 0) HY.out.2.2.2.2.1 (by rw [List.getElem?_map, hp0]; rfl)
    clear hp0
    go_wp2_with fail
    clear hst
    generalize hm : w1.heap.size = m at HY HSTO ⊢
    clear hm
    go_loopg [6] 5 (fun g s6 wr => ∃ i : Nat, s6 = .int .i64 i ∧ i ≤ 4 ∧ 4 - i < g ∧ Hid (∃ ns, ns.length = i ∧ allV (ps.take i) = some ns ∧ Fr (fun k => k = m) y wr ∧ wr.heap[m]? = some (.cells (adr false (qpart ns)).toArray 30 (0, 0))))
    case atStart => exact ⟨0, by go_num, by omega, by omega, [], rfl, rfl, Fr.refl _ _, by rw [qpart_nil, HZ.out.1]; exact HY.out.2.2.1⟩
    case round =>
      obtain ⟨i, rfl, hi4, hig, HR⟩ := hrel
      obtain ⟨ns, hnl, hall, hfr, hbm⟩ := HR.out
      by_cases hi : i = 4
      · subst hi
        have hV : (adr false (qpart ns)).length = 17 := by rw [adr_length, qpart_length (by omega)]
        obtain ⟨y', hs2, hb2, hf2⟩ := HSTO.out (adr false (qpart ns)) wr hV (adr_one _ _) hfr
        have hl2 : Sem.run PD (loadCellsFrom ⟨m, 0, none⟩ 0 k24 #[]) wr = .ok (adr false (qpart ns)).toArray wr := by rw [HK30.out]; exact load_all hbm hV
        have HPR : Hid (par 3 l = some ns) := by
          show _ = _
          rw [HPS.out, if_pos HPL.out, ← hall, List.take_of_length_le (by rw [HPL.out]; omega)]
        have H2 := Lib.hid (And.intro hb2 (And.intro hf2 (And.intro hV hnl)))
        have hVk : (adr false (qpart ns)).length = k24 := by rw [HK30.out]; exact hV
        clear hb2 hf2 hV hnl hall hfr hbm HR
        generalize hVV : adr false (qpart ns) = V at hs2 hl2 H2 hVk
        have hs3 : Sem.run PD (storeCells ⟨n, 0, none⟩ V.toArray.toList 0) wr = .ok () y' := hs2
        have hVk2 : V.toArray.size = k24 := by rw [List.size_toArray]; exact hVk
        have HVV := Lib.hid hVV
        clear hVV
        go_wp2_with fail
        refine bodyPost_ret_by (results_agg_tmp rfl _ (b := n) (k := 17) (cs := V.toArray) (Tryz.isAgg30 _) (Tryz.sizeOf30 _) rfl (load_all H2.out.1 H2.out.2.2.1)) rfl ?_
        exact ⟨by rw [HPR.out, ← HVV.out, qpart_quad H2.out.2.2.2]; rfl, H2.out.2.1⟩
      · obtain ⟨p, hp⟩ : ∃ p, ps[i]? = some p := ⟨_, List.getElem?_eq_getElem (by rw [HPL.out]; omega)⟩
        have c1 : wr.cell? ⟨ab, ao + i, none⟩ = some (.string (bs p)) := by
          obtain ⟨b', o', he, hc⟩ := strs_at (i := i) (HY.out.2.2.2.2.1.fr hfr (fun ad had hk => by have := HY.out.2.2.2.2.2 ad had; omega)) (by rw [List.getElem?_map, hp]; rfl)
          cases he
          exact hc
        have q1 : (0 : Int) ≤ (i : Int) := by omega
        have q2 : (i : Int) < 4 := by omega
        have q3 : (i : Int) < 16 := by omega
        have htk : ps.take (i + 1) = ps.take i ++ [p] := by rw [List.take_add_one, hp]; rfl
        have HA := Lib.hid (And.intro hnl (And.intro hall (And.intro hfr (And.intro hbm (And.intro htk hp)))))
        have hL := qpart_length (ns := ns) (by omega)
        obtain ⟨z1, hz1⟩ : ∃ z, (qpart ns)[i]? = some z := ⟨_, List.getElem?_eq_getElem (by rw [hL]; omega)⟩
        have d1 := adr_cell hbm hz1
        have f1 := frozen_of_row wr m (1 + i) _ _ hbm
        clear hnl hall hfr hbm htk hp HR hL hz1
        go_wp2_with fail
        refine (at_prog HP.out (HPD.out p wr)).mono ?_
        rintro e w3 ⟨rfl, rfl⟩
        cases hd : decV p with
        | none =>
          have HPR : Hid (par 3 l = none) := by
            show _ = _
            rw [HPS.out, if_pos HPL.out, allV_none (List.mem_of_getElem? HA.out.2.2.2.2.2) hd]
          have hneg : decI none < 0 := by decide
          obtain ⟨y', hs2, hb2, hf2⟩ := HSTO.out Z.toList w3 (by rw [Array.length_toList]; exact HZ.out.2.1) HZ.out.2.2 HA.out.2.2.1
          have H2 := Lib.hid (And.intro hb2 hf2)
          clear hb2 hf2 hd d1 f1 c1
          go_wp2_with fail
          refine bodyPost_ret_by (results_agg_tmp rfl _ (b := n) (k := 17) (cs := Z) (Tryz.isAgg30 _) (Tryz.sizeOf30 _) rfl (load_block H2.out.1 HZ.out.2.1 (fun j v hv => by simpa using hv))) rfl ?_
          exact ⟨by rw [HPR.out, ← HZ.out.1]; rfl, H2.out.2⟩
        | some x =>
          have hx256 := decV_lt hd
          have HDD := Lib.hid hd
          have hneg : ¬ decI (some x) < 0 := by show ¬ (x : Int) < 0; omega
          have hw8 : IntKind.u8.wrap (decI (some x)) = (x : Int) := by show IntKind.u8.wrap (x : Int) = _; simp [IntKind.wrap, IntKind.bits, IntKind.signed]; omega
          clear hd
          generalize decI (some x) = dx at hneg hw8 ⊢
          go_wp2_with fail
          go_roundg (4 - i)
          case measure => exact hig
          case rel =>
            have e1 := adr_set (i := i) (x := x) HA.out.2.2.2.1
            have e2 := qpart_set (ns := ns) (x := x) (by rw [HA.out.1]; omega)
            rw [HA.out.1] at e2
            rw [e2] at e1
            refine ⟨i + 1, by go_num, by omega, by omega, ns ++ [x], by rw [List.length_append, HA.out.1]; rfl, ?_, HA.out.2.2.1.trans (Fr.setCell (fun k => k = m) _ _ _ rfl), ?_⟩
            · rw [HA.out.2.2.2.2.1, allV_snoc, HA.out.2.1, HDD.out]
            · simpa using e1
  · have p4 : ¬ (k : Int) = 4 := by omega
    have HR : Hid (par 3 l = none) := by show _ = _; rw [HPS.out, if_neg (by rw [HPL.out]; exact hk4)]
    obtain ⟨y', hs2, hb2, hf2⟩ := HSTO.out Z.toList y (by rw [Array.length_toList]; exact HZ.out.2.1) HZ.out.2.2 (Fr.refl _ _)
    have hl2 : Sem.run PD (loadCellsFrom ⟨w1.heap.size, 0, none⟩ 0 k24 #[]) y = .ok Z y := by rw [HK30.out]; exact load_block HY.out.2.2.1 HZ.out.2.1 (fun j v hv => by simpa using hv)
    have H2 := Lib.hid (And.intro hb2 hf2)
    clear hb2 hf2 hk4
    go_wp2_with fail
    refine bodyPost_ret_by (results_agg_tmp rfl _ (b := n) (k := 17) (cs := Z) (Tryz.isAgg30 _) (Tryz.sizeOf30 _) rfl (load_block H2.out.1 HZ.out.2.1 (fun j v hv => by simpa using hv))) rfl ?_
    exact ⟨by rw [HR.out, ← HZ.out.1]; rfl, H2.out.2⟩
end Go.Proofs.YtmhnailcmlomiaaGreatDoor
