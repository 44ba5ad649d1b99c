/-
  CONTRACT of Delete of package trie at one value type, over this seat's translation.
  Conditions: the trie lies in memory.
-/
import Derived.Test.YtnbohhiooigmbaaXjI
import Derived.Test.YtnbohhiooigmbaaXiI
import Derived.Test.YtnbohhiooigmbaaXkI
namespace Go.Proofs.Ytnbohhiooigmbaa
open Go.ChangeShapes Go.WideShapes Go.ChangeAt Go.RowKit
set_option linter.unusedVariables false

set_option maxHeartbeats 8000000 in
set_option maxRecDepth 100000 in
theorem deleteI (p : Px) (hp : Bytes p.xs) (a : Nat) (ta tb : Tr) (w : World) (hT : Tri 81 3 75 w a ta tb) (hM : (ta.toL ++ tb.toL).length ≤ 100000) :
    Calls Try.prog 14 #[.pointer (some ⟨a, 0, none⟩), .agg (pfx p.b p.xs p.n).toArray] w fun e w' => e = .returned (.bool (valL (ta.toL ++ tb.toL) p).isSome) ∧ AfterI w a ta tb (if (valL (ta.toL ++ tb.toL) p).isSome = true then del p (ta.toL ++ tb.toL) else ta.toL ++ tb.toL) w' := by
  obtain ⟨P, hP0, -, -, hPs, hPA, -⟩ := pfx_letter p.b p.xs p.n hp
  obtain ⟨B, hB, -, hBs, -⟩ := adr_letter p.b p.xs hp
  rw [hB] at hPA
  have hval := get_val hT p
  obtain ⟨gv, hgv⟩ : ∃ gv, getT (mine p ta tb) p = gv := ⟨_, rfl⟩
  have HG : Hid (∀ w', Fr No w w' → Calls Try.prog 15 #[.pointer (some ⟨a, 0, none⟩), .agg P] w' fun e w'' => e = .returned (.tuple #[ansI gv, .bool gv.isSome]) ∧ Fr No w' w'') := fun w' hf => by
    have h := getI p hp a ta tb w' (hT.no hf)
    rw [hP0] at h
    rw [show (if p.b = true then tb else ta) = mine p ta tb from rfl, hgv] at h
    exact h
  rw [hP0]
  rw [hgv] at hval
  have hsome : (valL (ta.toL ++ tb.toL) p).isSome = gv.isSome := by rw [← hval]; cases gv <;> rfl
  rw [hsome]
  have hb0 := heap_alloc_new w (.cells P 31)
  have hF0 := Fr.alloc No w (.cells P 31)
  have HB := Lib.hid (And.intro hb0 (And.intro hF0 (And.intro (adr_part hBs hPA) hB)))
  have HT := Lib.hid hT
  obtain ⟨av, hav⟩ : ∃ av, ansI gv = av := ⟨_, rfl⟩
  rw [hav] at HG
  cases gv with
  | none =>
    rw [show (none : Option (Nat × Value)).isSome = false from rfl] at HG ⊢
    clear hP0 hB hPA hb0 hF0 hT hval hgv hsome hav
    go_enter Try.func14, Try.ntmps14
    have t3 := Try.underlying3
    have u3 := Try.runUnderlying3
    have g3 := Try.isAgg3
    have z3 := Try.sizeOf3
    have t4 := Try.underlying4
    have u4 := Try.runUnderlying4
    have g4 := Try.isAgg4
    have z4 := Try.sizeOf4
    have t9 := Try.underlying9
    have u9 := Try.runUnderlying9
    have g9 := Try.isAgg9
    have z9 := Try.sizeOf9
    have t29 := Try.underlying29
    have u29 := Try.runUnderlying29
    have g29 := Try.isAgg29
    have z29 := Try.sizeOf29
    have t31 := Try.underlying31
    have u31 := Try.runUnderlying31
    have g31 := Try.isAgg31
    have z31 := Try.sizeOf31
    have t73 := Try.underlying73
    have u73 := Try.runUnderlying73
    have g73 := Try.isAgg73
    have z73 := Try.sizeOf73
    have t81 := Try.underlying81
    have u81 := Try.runUnderlying81
    have g81 := Try.isAgg81
    have z81 := Try.sizeOf81
    have t24 := Try.underlying24
    have u24 := Try.runUnderlying24
    have g24 := Try.isAgg24
    have z24 := Try.sizeOf24
    have t78 := Try.underlying78
    have u78 := Try.runUnderlying78
    have g78 := Try.isAgg78
    have z78 := Try.sizeOf78
    have t75 := Try.underlying75
    have u75 := Try.runUnderlying75
    have g75 := Try.isAgg75
    have z75 := Try.sizeOf75
    have c15 := Try.call15
    have mixed : Try.prog.follows .mixedOrders = true := by kernel_rfl
    obtain ⟨k40, hk40⟩ : ∃ k, k = 18 := ⟨_, rfl⟩
    rw [← hk40] at z31
    have nk40 : ¬ k40 = 0 := by omega
    have HK31 := Lib.hid hk40
    have hP : Try.prog = PD := rfl
    rw [hP] at t3 u3 g3 z3 t4 u4 g4 z4 t9 u9 g9 z9 t29 u29 g29 z29 t31 u31 g31 z31 t73 u73 g73 z73 t81 u81 g81 z81 t24 u24 g24 z24 t78 u78 g78 z78 t75 u75 g75 z75 c15 mixed ⊢
    have HP := Lib.hid hP.symm
    clear hP hk40
    have hPk : P.size = k40 := by rw [HK31.out]; exact hPs
    have l0 : Sem.run PD (loadCellsFrom ⟨w.heap.size, 0, none⟩ 0 k40 #[]) (w.alloc (.cells P 31)) = .ok P (w.alloc (.cells P 31)) := load_block HB.out.1 hPk (fun j v hv => by simpa using hv)
    clear hPs
    go_wp2_with (first | (go_at_call 15; go_loud (refine (at_prog HP.out (HG.out _ HB.out.2.1)).mono ?_; rintro e w3 ⟨rfl, hf3⟩)) | fail)
    go_ret
    have hw := HB.out.2.1.trans hf3
    exact ⟨rfl, ta, tb, HT.out.no hw, rfl, hw.no, fun k hk => .inl hk⟩
  | some ux =>
    obtain ⟨vb, x⟩ := ux
    rw [show (some (vb, x)).isSome = true from rfl] at HG hsome ⊢
    rw [if_pos rfl]
    have hpm := get_in hgv
    have hok : okP p := (hT.mine_wf p).1.ok p hpm
    obtain ⟨ao, hao⟩ : ∃ ao, (if p.b = true then 1 else 0 : Nat) = ao := ⟨_, rfl⟩
    have HRT : Hid (∀ w', Calls Try.prog 40 #[.pointer (some ⟨a, 0, none⟩), .agg B] w' fun e w'' => e = .returned (.pointer (some ⟨a, ao, none⟩)) ∧ Fr No w' w'') := fun w' => by rw [← hB, ← hao]; exact rootI a p.b p.xs hp w'
    obtain ⟨m1, m2, m3, m4, m5⟩ := hT.mine_wf p
    obtain ⟨t, ht⟩ : ∃ t, mine p ta tb = t := ⟨_, rfl⟩
    rw [ht] at m1 m3 m4 m5 hpm
    have HWI : Hid (∀ w', Fr No w w' → Calls Try.prog 41 #[rt t, .agg P] w' fun e w'' => e = .returned (rt (wo p t)) ∧ In 81 3 w'' (wo p t) ∧ Fr (fun k => k ∈ blk t) w' w'') := fun w' hf => by
      have h := withoutI p hok t w' (m5.no hf) m1 m3 hpm
      rw [hP0] at h
      exact h
    obtain ⟨n, hn⟩ : ∃ n, (ta.toL ++ tb.toL).length = n := ⟨_, rfl⟩
    have hdl := del_len (both_srt hT.w4 hT.w6 hT.f4 hT.f6) hsome
    rw [hn] at hdl
    have hnM : n ≤ 100000 := by rw [← hn]; exact hM
    have hn1 : 1 ≤ n := by omega
    have hw1 : IntKind.i64.wrap ((n : Int) - 1) = (n : Int) - 1 := by rw [IntKind.wrap_i64]; omega
    have hhd := hT.head
    rw [hn] at hhd
    have hca : w.cell? ⟨a, ao, none⟩ = some (rt t) := by
      rw [← hao, ← ht]
      unfold mine
      cases hb : p.b with
      | true => exact cell_of hhd rfl
      | false => exact cell_of hhd rfl
    have hset : (#[rt ta, rt tb, .int .i64 (n : Int)] : Array Value).setIfInBounds ao (rt (wo p t)) = #[rt (if p.b = true then ta else wo p ta), rt (if p.b = true then wo p tb else tb), .int .i64 (n : Int)] := by
      rw [← hao, ← ht]
      unfold mine
      cases hb : p.b with
      | true => simp
      | false => simp
    have HX := Lib.hid (And.intro hok (And.intro ht (And.intro hpm (And.intro m4 (And.intro m5 (And.intro hdl (And.intro hhd (And.intro hca hset))))))))
    obtain ⟨ol, hol⟩ := rt_ptrI t
    obtain ⟨ow, how⟩ := rt_ptrI (wo p t)
    have HO := Lib.hid (And.intro hol how)
    rw [hol, how] at HWI
    clear hP0 hB hPA hb0 hF0 hT hval hgv hsome hpm hok m1 m2 m3 m4 m5 ht hdl hhd hca hset hn hao hol how hav hM
    go_enter Try.func14, Try.ntmps14
    have t3 := Try.underlying3
    have u3 := Try.runUnderlying3
    have g3 := Try.isAgg3
    have z3 := Try.sizeOf3
    have t4 := Try.underlying4
    have u4 := Try.runUnderlying4
    have g4 := Try.isAgg4
    have z4 := Try.sizeOf4
    have t9 := Try.underlying9
    have u9 := Try.runUnderlying9
    have g9 := Try.isAgg9
    have z9 := Try.sizeOf9
    have t29 := Try.underlying29
    have u29 := Try.runUnderlying29
    have g29 := Try.isAgg29
    have z29 := Try.sizeOf29
    have t31 := Try.underlying31
    have u31 := Try.runUnderlying31
    have g31 := Try.isAgg31
    have z31 := Try.sizeOf31
    have t73 := Try.underlying73
    have u73 := Try.runUnderlying73
    have g73 := Try.isAgg73
    have z73 := Try.sizeOf73
    have t81 := Try.underlying81
    have u81 := Try.runUnderlying81
    have g81 := Try.isAgg81
    have z81 := Try.sizeOf81
    have t24 := Try.underlying24
    have u24 := Try.runUnderlying24
    have g24 := Try.isAgg24
    have z24 := Try.sizeOf24
    have t84 := Try.underlying84
    have u84 := Try.runUnderlying84
    have g84 := Try.isAgg84
    have z84 := Try.sizeOf84
    have t78 := Try.underlying78
    have u78 := Try.runUnderlying78
    have g78 := Try.isAgg78
    have z78 := Try.sizeOf78
    have t75 := Try.underlying75
    have u75 := Try.runUnderlying75
    have g75 := Try.isAgg75
    have z75 := Try.sizeOf75
    have c15 := Try.call15
    have c40 := Try.call40
    have c41 := Try.call41
    have mixed : Try.prog.follows .mixedOrders = true := by kernel_rfl
    obtain ⟨k30, hk30⟩ : ∃ k, k = 17 := ⟨_, rfl⟩
    rw [← hk30] at z29
    have nk30 : ¬ k30 = 0 := by omega
    have HK29 := Lib.hid hk30
    obtain ⟨k40, hk40⟩ : ∃ k, k = 18 := ⟨_, rfl⟩
    rw [← hk40] at z31
    have nk40 : ¬ k40 = 0 := by omega
    have HK31 := Lib.hid hk40
    have hP : Try.prog = PD := rfl
    rw [hP] at t3 u3 g3 z3 t4 u4 g4 z4 t9 u9 g9 z9 t29 u29 g29 z29 t31 u31 g31 z31 t73 u73 g73 z73 t81 u81 g81 z81 t24 u24 g24 z24 t84 u84 g84 z84 t78 u78 g78 z78 t75 u75 g75 z75 c15 c40 c41 mixed ⊢
    have HP := Lib.hid hP.symm
    clear hP hk30 hk40
    have hPk : P.size = k40 := by rw [HK31.out]; exact hPs
    have hBk : B.size = k30 := by rw [HK29.out]; exact hBs
    clear hPs hBs
    have HL : Hid (∀ w', Fr No (w.alloc (.cells P 31)) w' → Sem.run PD (loadCellsFrom ⟨w.heap.size, 0, none⟩ 0 k40 #[]) w' = .ok P w' ∧ Sem.run PD (loadCellsFrom ⟨w.heap.size, 0, none⟩ 0 k30 #[]) w' = .ok B w') := fun w' hf => ⟨load_block (hf.keep HB.out.1) hPk (fun j v hv => by simpa using hv), load_block (hf.keep HB.out.1) hBk HB.out.2.2.1⟩
    have l0 := (HL.out _ (Fr.refl _ _)).1
    go_wp2_with (first | (go_at_call 15; go_loud (refine (at_prog HP.out (HG.out _ HB.out.2.1)).mono ?_; rintro e w3 ⟨rfl, hf3⟩; have l3 := (HL.out _ hf3).2)) | (go_at_call 40; go_loud (refine (at_prog HP.out (HRT.out _)).mono ?_; rintro e w4 ⟨rfl, hf4⟩; have A4 : Fr No (w.alloc (.cells P 31)) w4 := hf3.trans hf4)) | fail)
    have A5 : Fr No (w.alloc (.cells P 31)) w4.drew := A4.trans (Fr.drew _ _)
    have W5 : Fr No w w4.drew := HB.out.2.1.trans A5
    have lP5 := (HL.out w4.drew A5).1
    have c5 : w4.drew.cell? ⟨a, ao, none⟩ = some (.pointer ol) := by rw [← HO.out.1]; exact W5.cell HX.out.2.2.2.2.2.2.2.1
    have HIC := Lib.hid (HWI.out w4.drew W5)
    have HW5 := Lib.hid W5
    go_cut [7] (fun s7 wx => Hid (∃ w8 : World, In 81 3 w8 (wo p t) ∧ Fr (fun k => k ∈ blk t) w4.drew w8 ∧ wx = w8.setCell ⟨a, ao, none⟩ (.pointer ow)))
    case first =>
      go_region_with (first | (go_at_call 41; go_loud (refine (at_prog HP.out HIC.out).mono ?_; rintro e w8 ⟨rfl, hin8, hf8⟩; have b8 := (hf8.block a (some_lt (HW5.out.keep HX.out.2.2.2.2.2.2.1)) HX.out.2.2.2.1).trans (HW5.out.keep HX.out.2.2.2.2.2.2.1); have c8 : w8.cell? ⟨a, ao, none⟩ = some (.pointer ol) := (by rw [← HO.out.1]; exact cell_of b8 (cell_heap HX.out.2.2.2.2.2.2.1 HX.out.2.2.2.2.2.2.2.1)); have z8 := frozen_of_row w8 a ao _ _ b8; clear b8)))
      all_goals (
        go_wp2_with fail
        go_meet
        exact ⟨w8, hin8, hf8, rfl⟩)
    case rest =>
      obtain ⟨w8, hin8, hf8, hwx⟩ := hcut
      replace hwx := hwx.symm
      have b8 := (hf8.block a (some_lt (HW5.out.keep HX.out.2.2.2.2.2.2.1)) HX.out.2.2.2.1).trans (HW5.out.keep HX.out.2.2.2.2.2.2.1)
      have b9 : wc.heap[a]? = some (.cells #[rt (if p.b = true then ta else wo p ta), rt (if p.b = true then wo p tb else tb), .int .i64 (n : Int)] 75 (0, 0)) := by rw [← hwx, setCell_same b8, ← HO.out.2, HX.out.2.2.2.2.2.2.2.2]
      have c2 : wc.cell? ⟨a, 2, none⟩ = some (.int .i64 (n : Int)) := cell_of b9 rfl
      have z2 := frozen_of_row wc a 2 _ _ b9
      clear c5 lP5 HIC A5 W5 A4 hf3 hf4 l0 l3
      go_wp2_with fail
      go_ret
      have E9 : Fr (fun k => k = a ∨ k ∈ blk t) w4.drew (wc.setCell ⟨a, 2, none⟩ (.int .i64 ((n : Int) - 1))) := by
        rw [← hwx]
        exact ((hf8.mono fun k _ hk => .inr hk).trans (Fr.setCell _ _ _ _ (.inl rfl))).trans (Fr.setCell _ _ _ _ (.inl rfl))
      have hT5 := HT.out.no HW5.out
      obtain ⟨o1, o2⟩ := other_in hT5 p
      have hoth : In 81 3 (wc.setCell ⟨a, 2, none⟩ (.int .i64 ((n : Int) - 1))) (other p ta tb) := o1.fr E9 fun k hk hc => by
        rcases hc with hc | hc
        · exact o2 (hc ▸ hk)
        · exact (mine_other HT.out (p := p) (by rw [HX.out.2.1]; exact hc)).1 hk
      have hin : In 81 3 (wc.setCell ⟨a, 2, none⟩ (.int .i64 ((n : Int) - 1))) (wo p (mine p ta tb)) := by
        rw [HX.out.2.1, ← hwx]
        refine hin8.keep fun k hk => ?_
        have hka : k ≠ a := fun hc => HX.out.2.2.2.1 ((wo_sub t).subset (hc ▸ hk))
        rw [setCell_other _ hka, setCell_other _ hka]
      obtain ⟨r1, r2, r3⟩ := tri_del (w := w) (N := 81) (V := 3) (T := 75) HT.out HX.out.1 (by rw [HX.out.2.1]; exact HX.out.2.2.1) hin hoth (by
        rw [setCell_same b9]
        have e : ((n : Int) - 1) = ((del p (ta.toL ++ tb.toL)).length : Nat) := by have := HX.out.2.2.2.2.2.1; omega
        rw [e]; rfl)
      refine ⟨rfl, _, _, r1, r2, ?_, fun k hk => .inl (r3 k hk)⟩
      exact HW5.out.no.trans (E9.mono fun k _ hk => by
        rcases hk with hk | hk
        · exact .inl hk
        · exact own_mine (p := p) (by rw [HX.out.2.1]; exact hk))
end Go.Proofs.Ytnbohhiooigmbaa
