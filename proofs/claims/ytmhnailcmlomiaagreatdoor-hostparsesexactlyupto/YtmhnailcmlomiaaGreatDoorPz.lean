/-
  CONTRACT of the reference's ParseTarget, over this seat's translation: what the call returns.
  Conditions: the string is shorter than 2 to the 31.
-/
import Derived.Test.YtmhnailcmlomiaaGreatDoorPu
import Derived.Test.YtmhnailcmlomiaaGreatDoorGt
import Derived.Test.YtmhnailcmlomiaaGreatDoorR8
import Derived.Test.YtmhnailcmlomiaaGreatDoorVc
namespace Go.Proofs.YtmhnailcmlomiaaGreatDoor
open Go.ChangeShapes Go.WideShapes Go.ChangeAt Go.RowKit
set_option linter.unusedVariables false

set_option maxHeartbeats 32000000 in
set_option maxRecDepth 100000 in
theorem ptarget_ref (l : List UInt8) (hl : l.length < 2147483648) (w : World) :
    Calls Tryz.prog 40 #[.string (bs l)] w fun e w' => e = .returned (.tuple #[.agg (ptT l).toArray, .bool (ptB l)]) ∧ Fr No w w' := by
  obtain ⟨Z, hZ⟩ : ∃ Z : Array Value, noT.toArray = Z := ⟨_, rfl⟩
  obtain ⟨Y, hY⟩ : ∃ Y : Array Value, (adr false zeros).toArray = Y := ⟨_, rfl⟩
  have v62 := zero32
  have v24 := zero30
  rw [hZ] at v62
  rw [hY] at v24
  have hz19 : Z.size = 19 := by rw [← hZ]; rfl
  have hy17 : Y.size = 17 := by rw [← hY]; rfl
  have hZ1 : ∀ u ∈ Z.toList, u.oneCell' = true := by rw [← hZ]; exact tgt_one _ _ _ _
  have HZ := Lib.hid (And.intro hZ1 hZ)
  have hsz : (bs l).size = l.length := rfl
  have HIX : Hid (∀ (i : Nat) (x : UInt8) (w : World), l[i]? = some x → Sem.run Tryz.prog (Instr.index 9 (.string (bs l)) (.int .i64 i)) w = .ok (.int .u8 (x.toNat : Int)) w) := fun i x w h => bs_index h w
  have HL := Lib.hid hl
  have hb1 := heap_alloc_new w (.cells Z 32)
  have hF := Fr.alloc No w (.cells Z 32)
  obtain ⟨w1, hw1⟩ : ∃ w1, w.alloc (.cells Z 32) = w1 := ⟨_, rfl⟩
  obtain ⟨nb, hnb⟩ : ∃ nb, w.heap.size = nb := ⟨_, rfl⟩
  rw [hw1, hnb] at hb1
  rw [hw1] at hF
  have HB := Lib.hid (And.intro hb1 (And.intro hF hnb))
  have hl62 : l.length < 9223372036854775807 := by omega
  generalize hs : bs l = s at hsz HIX
  have HS := Lib.hid hs
  clear hb1 hF hZ hY hZ1 hl hs
  go_enter Tryz.func40, Tryz.ntmps40
  have t3 := Tryz.underlying3
  have u3 := Tryz.runUnderlying3
  have g3 := Tryz.isAgg3
  have z3 := Tryz.sizeOf3
  have t4 := Tryz.underlying4
  have u4 := Tryz.runUnderlying4
  have g4 := Tryz.isAgg4
  have z4 := Tryz.sizeOf4
  have t5 := Tryz.underlying5
  have u5 := Tryz.runUnderlying5
  have g5 := Tryz.isAgg5
  have z5 := Tryz.sizeOf5
  have t9 := Tryz.underlying9
  have u9 := Tryz.runUnderlying9
  have g9 := Tryz.isAgg9
  have z9 := Tryz.sizeOf9
  have t30 := Tryz.underlying30
  have u30 := Tryz.runUnderlying30
  have g30 := Tryz.isAgg30
  have z30 := Tryz.sizeOf30
  have t32 := Tryz.underlying32
  have u32 := Tryz.runUnderlying32
  have g32 := Tryz.isAgg32
  have z32 := Tryz.sizeOf32
  have c39 := Tryz.call39
  have c42 := Tryz.call42
  have c69 := Tryz.call69
  have c76 := Tryz.call76
  have mixed : Tryz.prog.follows .mixedOrders = true := by kernel_rfl
  obtain ⟨k24, hk24⟩ : ∃ k, k = 17 := ⟨_, rfl⟩
  rw [← hk24] at z30
  have nk24 : ¬ k24 = 0 := by omega
  have HK30 := Lib.hid hk24
  obtain ⟨k62, hk62⟩ : ∃ k, k = 19 := ⟨_, rfl⟩
  rw [← hk62] at z32
  have nk62 : ¬ k62 = 0 := by omega
  have HK32 := Lib.hid hk62
  have hP : Tryz.prog = PD := rfl
  rw [hP] at t3 u3 g3 z3 t4 u4 g4 z4 t5 u5 g5 z5 t9 u9 g9 z9 t30 u30 g30 z30 t32 u32 g32 z32 c39 c42 c69 c76 mixed v62 v24 ⊢
  have HP := Lib.hid hP.symm
  clear hP hk24 hk62
  have hZk : Z.size = k62 := by rw [HK32.out]; exact hz19
  have hYk : Y.size = k24 := by rw [HK30.out]; exact hy17
  clear hz19 hy17
  go_wp2_with fail
  go_loopg [4, 5] (l.length + 1) (fun g s4 s5 wr => ∃ j : Nat, s5 = .int .i64 j ∧ s4 = .int .i64 (lastN (lastc 58 (l.take j))) ∧ j ≤ l.length ∧ l.length - j < g ∧ wr = w1)
  case atStart => exact ⟨0, by go_num, rfl, by omega, by omega, rfl⟩
  case round =>
    obtain ⟨j, rfl, rfl, hjl, hjg, hwr⟩ := hrel
    subst hwr
    by_cases hj : j = l.length
    · subst hj
      rw [List.take_length]
      cases hla : lastc 58 l with
      | none =>
        have HV : Hid (ptT l = noT ∧ ptB l = false) := ⟨by rw [ptT, hla], by rw [ptB, hla]⟩
        obtain ⟨y2, hs2, hb2, hg2⟩ := store_all (P := PD) Z.toList HB.out.1 (by rw [Array.length_toList]) HZ.out.1
        have hb3 : y2.heap[nb]? = some (.cells Z 32 (0, 0)) := by simpa using hb2
        have HLL := Lib.hid (And.intro hb3 (HB.out.2.1.ofNew hg2 fun k hk => .inr (by rw [hk]; exact Nat.le_of_eq HB.out.2.2)))
        clear hb2 hg2 hb3
        rw [show lastN none = -1 from rfl]
        clear hla hjl hjg
        go_wp2_with fail
        refine bodyPost_ret_by (results_agg_tmp rfl _ (b := nb) (k := 19) (cs := Z) (Tryz.isAgg32 _) (Tryz.sizeOf32 _) rfl (load_block HLL.out.1 (by rw [← HK32.out]; exact hZk) (fun j v hv => by simpa using hv))) rfl ?_
        exact ⟨by rw [HV.out.1, HV.out.2, HZ.out.2]; rfl, HLL.out.2⟩
      | some i =>
        have hil : i < l.length := (List.getElem?_eq_some_iff.1 (lastc_lt hla)).1
        have hV1 : ptT l = if phB (l.take i) && (portV (l.drop (i + 1))).isSome then withP (phT (l.take i)) (portN (portV (l.drop (i + 1)))) else noT := by rw [ptT, hla]
        have hV2 : ptB l = (phB (l.take i) && (portV (l.drop (i + 1))).isSome) := by rw [ptB, hla]
        have hex1 : s.extract 0 i = bs (l.take i) := by rw [← HS.out, bs_extract]; rfl
        have hex2 : s.extract (i + 1) l.length = bs (l.drop (i + 1)) := by rw [← HS.out, bs_extract, List.take_of_length_le]; rw [List.length_drop]; exact Nat.le_refl _
        have HN : Hid (∀ w, Calls Tryz.prog 42 #[.string (bs (l.drop (i + 1)))] w fun e w' => e = .returned (.tuple #[.int .i64 (portN (portV (l.drop (i + 1))) : Nat), .bool (portV (l.drop (i + 1))).isSome]) ∧ w' = w) := fun w => pport_ref _ w
        have hhl : (l.take i).length = i := by rw [List.length_take]; omega
        have HI := Lib.hid hil
        have q1 : (0 : Int) ≤ (i : Int) := by omega
        have q2 : (i : Int) ≤ (l.length : Int) := by omega
        have q3 : (i : Int) + 1 ≤ (l.length : Int) := by omega
        have q4 : (0 : Int) ≤ (i : Int) + 1 := by omega
        have q5 : ((i : Int) + 1).toNat = i + 1 := by omega
        have q6 : i < 2147483648 := by have := HL.out; omega
        have q7 : ¬ (i : Int) < 0 := by omega
        rw [show lastN (some i) = (i : Int) from rfl]
        generalize bs (l.drop (i + 1)) = s2 at hex2 HN
        generalize portV (l.drop (i + 1)) = pv at HN hV1 hV2
        generalize l.take i = h at hV1 hV2 hex1 hhl
        clear hla hjl hjg hil hl62
        cases pv with
        | none =>
          have HV : Hid (ptT l = noT ∧ ptB l = false) := ⟨by rw [hV1]; simp, by rw [hV2]; simp⟩
          obtain ⟨y2, hs2, hb2, hg2⟩ := store_all (P := PD) Z.toList HB.out.1 (by rw [Array.length_toList]) HZ.out.1
          have hb3 : y2.heap[nb]? = some (.cells Z 32 (0, 0)) := by simpa using hb2
          have HLL := Lib.hid (And.intro hb3 (HB.out.2.1.ofNew hg2 fun k hk => .inr (by rw [hk]; exact Nat.le_of_eq HB.out.2.2)))
          clear hb2 hg2 hb3
          have HN2 : Hid (∀ w, Calls Tryz.prog 42 #[.string s2] w fun e w' => e = .returned (.tuple #[.int .i64 (portN none : Nat), .bool false]) ∧ w' = w) := HN.out
          clear hV1 hV2 HN hhl hex1
          go_wp2_with (first | (go_at_call 42; refine (at_prog HP.out (HN2.out _)).mono ?_; rintro e w3 ⟨rfl, hw3⟩; subst hw3) | fail)
          refine bodyPost_ret_by (results_agg_tmp rfl _ (b := nb) (k := 19) (cs := Z) (Tryz.isAgg32 _) (Tryz.sizeOf32 _) rfl (load_block HLL.out.1 (by rw [← HK32.out]; exact hZk) (fun j v hv => by simpa using hv))) rfl ?_
          exact ⟨by rw [HV.out.1, HV.out.2, HZ.out.2]; rfl, HLL.out.2⟩
        | some p =>
          have HN2 : Hid (∀ w, Calls Tryz.prog 42 #[.string s2] w fun e w' => e = .returned (.tuple #[.int .i64 (p : Int), .bool true]) ∧ w' = w) := HN.out
          have HV : Hid (ptT l = (if phB h then withP (phT h) p else noT) ∧ ptB l = phB h) := ⟨by rw [hV1]; simp [portN], by rw [hV2]; simp⟩
          clear hV1 hV2 HN
          have HIH : Hid (∀ (i : Nat) (x : UInt8) (w : World), h[i]? = some x → Sem.run PD (Instr.index 9 (.string (bs h)) (.int .i64 i)) w = .ok (.int .u8 (x.toNat : Int)) w) := fun i x w e => by
            have h1 : Sem.run Tryz.prog (Instr.index 9 (.string (bs h)) (.int .i64 i)) w = .ok (.int .u8 (x.toNat : Int)) w := bs_index e w
            exact h1
          have hh31 : h.length < 2147483648 := by omega
          cases hbr : brk h with
          | true =>
            have hbr' := hbr
            unfold brk at hbr'
            simp only [Bool.and_eq_true, decide_eq_true_eq] at hbr'
            obtain ⟨⟨h2, h91⟩, h93⟩ := hbr'
            obtain ⟨k, hk⟩ : ∃ k, h.length = k + 2 := ⟨h.length - 2, by omega⟩
            have hx0 : ∀ w, Sem.run PD (Instr.index 9 (.string (bs h)) (.int .i64 0)) w = .ok (.int .u8 91) w := fun w => HIH.out 0 91 w (by rw [← List.head?_eq_getElem?]; exact h91)
            have hxz : ∀ w, Sem.run PD (Instr.index 9 (.string (bs h)) (.int .i64 ((k : Int) + 1))) w = .ok (.int .u8 93) w := fun w => HIH.out (k + 1) 93 w (by rw [List.getLast?_eq_getElem?, hk] at h93; exact h93)
            have hex : (bs h).extract 1 (k + 1) = bs (mid h) := by rw [bs_extract, mid, hk]; rfl
            have hml : (mid h).length < 2147483648 := by rw [mid, List.length_take, List.length_drop]; omega
            have H69 : Hid (∀ w, Calls Tryz.prog 69 #[.string (bs (mid h))] w fun e w' => e = .returned (.tuple #[.agg (adr (resB (parseS (mid h))) (resX (parseS (mid h)))).toArray, .bool (parseS (mid h)).isSome]) ∧ Fr No w w') := fun w => parse_ref (mid h) hml w
            have hpa : phT h = paT (mid h) true ∧ phB h = pa (mid h) true := ⟨by rw [phT, if_pos hbr], by rw [phB, if_pos hbr]⟩
            have hpt : paT (mid h) true = (if pa (mid h) true then tgt ⟨#[]⟩ (resB (parseS (mid h))) (resX (parseS (mid h))) 0 else noT) ∧ pa (mid h) true = ((parseS (mid h)).isSome && decide (resB (parseS (mid h)) = true)) := ⟨rfl, rfl⟩
            have hrb := resX_bytes (mid h)
            have hk31 : k < 2147483648 := by omega
            have hsz1 : (bs h).size = k + 2 := hk
            generalize bs (mid h) = sm at hex H69
            generalize resX (parseS (mid h)) = rx at H69 hpt hrb
            generalize resB (parseS (mid h)) = rb at H69 hpt
            generalize (parseS (mid h)).isSome = ok at H69 hpt
            generalize bs h = sh at hex1 HIH hx0 hxz hex hsz1
            obtain ⟨A, hA, hA0, hA17, -⟩ := adr_letter rb rx hrb
            rw [hA] at H69
            have hAk : A.size = k24 := hA17.trans HK30.out.symm
            have HA : Hid ((∀ u ∈ A.toList, u.oneCell' = true) ∧ A[0]? = some (.bool rb)) := ⟨by rw [← hA]; exact adr_one _ _, hA0⟩
            have c1 : ((k : Int) + 1 + 1) - 1 = (k : Int) + 1 := by omega
            have c2 : ((k : Int) + 2) - 1 = (k : Int) + 1 := by omega
            have c3 : ((k : Int) + 1).toNat = k + 1 := by omega
            have r1 : (1 : Int) ≤ (k : Int) + 1 := by omega
            have r2 : (k : Int) + 1 ≤ (k : Int) + 2 := by omega
            have r3 : (0 : Int) ≤ (k : Int) + 1 := by omega
            have r4 : (2 : Int) ≤ (k : Int) + 2 := by omega
            have i3 : 1 + k24 ≤ k62 := by have := HK30.out; have := HK32.out; omega
            have i4 : 18 < k62 := by have := HK32.out; omega
            clear h2 h91 h93 hbr HIH hhl hml hk hA17 hA0
            cases ok with
            | false =>
              have HW : Hid (ptT l = noT ∧ ptB l = false) := ⟨by rw [HV.out.1, hpa.2, hpt.2]; rfl, by rw [HV.out.2, hpa.2, hpt.2]; rfl⟩
              clear hpa hpt hA
              go_wp2_with (first | (go_at_call 42; refine (at_prog HP.out (HN2.out _)).mono ?_; rintro e w3 ⟨rfl, hw3⟩; subst hw3) | (go_at_call 69; refine (at_prog HP.out (H69.out _)).mono ?_; rintro e w4 ⟨rfl, hf4⟩; obtain ⟨y1, hs1, hb1, hg1⟩ := store_all (P := PD) A.toList (heap_alloc_new w4 (.cells Y 30)) (by rw [Array.length_toList, hAk, hYk]) HA.out.1; have hb1' : y1.heap[w4.heap.size]? = some (.cells A 30 (0, 0)) := (by simpa using hb1); have k1 := (Fr.alloc No w4 (.cells Y 30)).keep (hf4.keep HB.out.1); have hlt : nb < w4.heap.size := Nat.lt_of_lt_of_le (Array.getElem?_eq_some_iff.1 HB.out.1).1 hf4.size; have hb0 : y1.heap[nb]? = some (.cells Z 32 (0, 0)) := ((hg1.block _ (Array.getElem?_eq_some_iff.1 k1).1 (by omega)).trans k1); have HF4 := Lib.hid (((HB.out.2.1.trans hf4).trans (Fr.alloc No w4 (.cells Y 30))).ofNew hg1 fun k hk => .inr (by rw [hk]; exact (HB.out.2.1.trans hf4).size)); have cb : y1.cell? ⟨w4.heap.size, 0, none⟩ = some (.bool rb) := (by rw [cell_of_row _ _ _ _ _ _ hb1']; exact HA.out.2); have hld : Sem.run PD (loadCellsFrom ⟨w4.heap.size, 0, none⟩ 0 k24 #[]) y1 = .ok A y1 := load_block hb1' hAk (fun j v hv => by simpa using hv); have HB0 := Lib.hid hb0; clear hb1 hb1' k1 hb0 hg1 hf4; obtain ⟨y2, hs2, hb2, hg2⟩ := store_all (P := PD) Z.toList HB0.out (by rw [Array.length_toList]) HZ.out.1; have hb3 : y2.heap[nb]? = some (.cells Z 32 (0, 0)) := (by simpa using hb2); have HLL := Lib.hid (And.intro hb3 ((HF4.out).ofNew hg2 fun k hk => .inr (by rw [hk]; exact Nat.le_of_eq HB.out.2.2))); clear hb2 hg2 hb3) | fail)
              refine bodyPost_ret_by (results_agg_tmp rfl _ (b := nb) (k := 19) (cs := Z) (Tryz.isAgg32 _) (Tryz.sizeOf32 _) rfl (load_block HLL.out.1 (by rw [← HK32.out]; exact hZk) (fun j v hv => by simpa using hv))) rfl ?_
              exact ⟨by rw [HW.out.1, HW.out.2, HZ.out.2]; rfl, HLL.out.2⟩
            | true =>
              cases rb with
              | false =>
                have HW : Hid (ptT l = noT ∧ ptB l = false) := ⟨by rw [HV.out.1, hpa.2, hpt.2]; rfl, by rw [HV.out.2, hpa.2, hpt.2]; rfl⟩
                clear hpa hpt hA
                go_wp2_with (first | (go_at_call 42; refine (at_prog HP.out (HN2.out _)).mono ?_; rintro e w3 ⟨rfl, hw3⟩; subst hw3) | (go_at_call 69; refine (at_prog HP.out (H69.out _)).mono ?_; rintro e w4 ⟨rfl, hf4⟩; obtain ⟨y1, hs1, hb1, hg1⟩ := store_all (P := PD) A.toList (heap_alloc_new w4 (.cells Y 30)) (by rw [Array.length_toList, hAk, hYk]) HA.out.1; have hb1' : y1.heap[w4.heap.size]? = some (.cells A 30 (0, 0)) := (by simpa using hb1); have k1 := (Fr.alloc No w4 (.cells Y 30)).keep (hf4.keep HB.out.1); have hlt : nb < w4.heap.size := Nat.lt_of_lt_of_le (Array.getElem?_eq_some_iff.1 HB.out.1).1 hf4.size; have hb0 : y1.heap[nb]? = some (.cells Z 32 (0, 0)) := ((hg1.block _ (Array.getElem?_eq_some_iff.1 k1).1 (by omega)).trans k1); have HF4 := Lib.hid (((HB.out.2.1.trans hf4).trans (Fr.alloc No w4 (.cells Y 30))).ofNew hg1 fun k hk => .inr (by rw [hk]; exact (HB.out.2.1.trans hf4).size)); have cb : y1.cell? ⟨w4.heap.size, 0, none⟩ = some (.bool false) := (by rw [cell_of_row _ _ _ _ _ _ hb1']; exact HA.out.2); have hld : Sem.run PD (loadCellsFrom ⟨w4.heap.size, 0, none⟩ 0 k24 #[]) y1 = .ok A y1 := load_block hb1' hAk (fun j v hv => by simpa using hv); have HB0 := Lib.hid hb0; clear hb1 hb1' k1 hb0 hg1 hf4; obtain ⟨y2, hs2, hb2, hg2⟩ := store_all (P := PD) Z.toList HB0.out (by rw [Array.length_toList]) HZ.out.1; have hb3 : y2.heap[nb]? = some (.cells Z 32 (0, 0)) := (by simpa using hb2); have HLL := Lib.hid (And.intro hb3 ((HF4.out).ofNew hg2 fun k hk => .inr (by rw [hk]; exact Nat.le_of_eq HB.out.2.2))); clear hb2 hg2 hb3) | fail)
                refine bodyPost_ret_by (results_agg_tmp rfl _ (b := nb) (k := 19) (cs := Z) (Tryz.isAgg32 _) (Tryz.sizeOf32 _) rfl (load_block HLL.out.1 (by rw [← HK32.out]; exact hZk) (fun j v hv => by simpa using hv))) rfl ?_
                exact ⟨by rw [HW.out.1, HW.out.2, HZ.out.2]; rfl, HLL.out.2⟩
              | true =>
                have HW : Hid (ptT l = tgt ⟨#[]⟩ true rx p ∧ ptB l = true) := ⟨by rw [HV.out.1, hpa.2, hpa.1, hpt.1, hpt.2]; exact withP_tgt _ _ _ hrb.1 p, by rw [HV.out.2, hpa.2, hpt.2]; rfl⟩
                obtain ⟨T, hT⟩ : ∃ T, (tgt ⟨#[]⟩ true rx p).toArray = T := ⟨_, rfl⟩
                obtain ⟨M, hM⟩ : ∃ M, (tgt ⟨#[]⟩ true rx 0).toArray = M := ⟨_, rfl⟩
                have hfold := put_addr true rx hrb.1
                have hset := tgt_port ⟨#[]⟩ true rx hrb.1 p
                have hTk : T.size = k62 := by rw [← hT, List.size_toArray, HK32.out]; exact tgt_length _ _ _ _ hrb.1
                have hMk : M.size = k62 := by rw [← hM, List.size_toArray, HK32.out]; exact tgt_length _ _ _ _ hrb.1
                have HT : Hid ((∀ u ∈ T.toList, u.oneCell' = true) ∧ (tgt ⟨#[]⟩ true rx p).toArray = T) := ⟨by rw [← hT]; intro u hu; exact tgt_one _ _ _ _ u (by simpa using hu), hT⟩
                rw [hA, HZ.out.2, hM, ← HK30.out] at hfold
                rw [hM, hT] at hset
                clear hT hM
                clear hpa hpt hA
                go_wp2_with (first | (go_at_call 42; refine (at_prog HP.out (HN2.out _)).mono ?_; rintro e w3 ⟨rfl, hw3⟩; subst hw3) | (go_at_call 69; refine (at_prog HP.out (H69.out _)).mono ?_; rintro e w4 ⟨rfl, hf4⟩; obtain ⟨y1, hs1, hb1, hg1⟩ := store_all (P := PD) A.toList (heap_alloc_new w4 (.cells Y 30)) (by rw [Array.length_toList, hAk, hYk]) HA.out.1; have hb1' : y1.heap[w4.heap.size]? = some (.cells A 30 (0, 0)) := (by simpa using hb1); have k1 := (Fr.alloc No w4 (.cells Y 30)).keep (hf4.keep HB.out.1); have hlt : nb < w4.heap.size := Nat.lt_of_lt_of_le (Array.getElem?_eq_some_iff.1 HB.out.1).1 hf4.size; have hb0 : y1.heap[nb]? = some (.cells Z 32 (0, 0)) := ((hg1.block _ (Array.getElem?_eq_some_iff.1 k1).1 (by omega)).trans k1); have HF4 := Lib.hid (((HB.out.2.1.trans hf4).trans (Fr.alloc No w4 (.cells Y 30))).ofNew hg1 fun k hk => .inr (by rw [hk]; exact (HB.out.2.1.trans hf4).size)); have cb : y1.cell? ⟨w4.heap.size, 0, none⟩ = some (.bool true) := (by rw [cell_of_row _ _ _ _ _ _ hb1']; exact HA.out.2); have hld : Sem.run PD (loadCellsFrom ⟨w4.heap.size, 0, none⟩ 0 k24 #[]) y1 = .ok A y1 := load_block hb1' hAk (fun j v hv => by simpa using hv); have HB0 := Lib.hid hb0; clear hb1 hb1' k1 hb0 hg1 hf4; obtain ⟨y2, hs2, hb2, hg2⟩ := store_all (P := PD) T.toList HB0.out (by rw [Array.length_toList, hTk, hZk]) HT.out.1; have hb3 : y2.heap[nb]? = some (.cells T 32 (0, 0)) := (by simpa using hb2); have HLL := Lib.hid (And.intro hb3 ((HF4.out).ofNew hg2 fun k hk => .inr (by rw [hk]; exact Nat.le_of_eq HB.out.2.2))); clear hb2 hg2 hb3) | fail)
                refine bodyPost_ret_by (results_agg_tmp rfl _ (b := nb) (k := 19) (cs := T) (Tryz.isAgg32 _) (Tryz.sizeOf32 _) rfl (load_block HLL.out.1 (by rw [← HK32.out]; exact hTk) (fun j v hv => by simpa using hv))) rfl ?_
                exact ⟨by rw [HW.out.1, HW.out.2, HT.out.2]; rfl, HLL.out.2⟩
          | false =>
            have H76 : Hid (∀ w, Calls Tryz.prog 76 #[.string (bs h)] w fun e w' => e = .returned (.tuple #[.agg (adr false (quad (par 3 h))).toArray, .bool (pa h false)]) ∧ Fr No w w') := fun w => by
              have h1 := pipv4_ref h hh31 w
              rw [(quad_pa h).1] at h1
              exact h1
            have H39 : Hid (∀ w, Calls Tryz.prog 39 #[.string (bs h)] w fun e w' => e = .returned (ansN (nameP h)) ∧ Fr No w w') := fun w => pname_ref h (by omega) w
            have hpq : phT h = (if pa h false then paT h false else tgt (nmS (nameP h)) false zeros 0) ∧ phB h = (if pa h false then true else (nameP h).isSome) := ⟨by rw [phT, if_neg (by rw [hbr]; simp)], by rw [phB, if_neg (by rw [hbr]; simp)]⟩
            have quad_facts : pa h false = true → paT h false = tgt ⟨#[]⟩ false (quad (par 3 h)) 0 ∧ True := fun e => ⟨by rw [paT, if_pos e, ((quad_pa h).2 e).1, ((quad_pa h).2 e).2], trivial⟩
            have hqb : Bytes (quad (par 3 h)) := by
              cases e : pa h false with
              | true => rw [((quad_pa h).2 e).1]; exact resX_bytes h
              | false =>
                have e2 : isQ (par 3 h) = false := by rw [(quad_pa h).1, e]
                cases e3 : par 3 h with
                | none => exact zeros_bytes
                | some xs => rw [e3] at e2; cases e2
            have hnp := trivial
            obtain ⟨A, hA, hA0, hA17, -⟩ := adr_letter false (quad (par 3 h)) hqb
            rw [hA] at H76
            have hAk : A.size = k24 := hA17.trans HK30.out.symm
            have HA : Hid ((∀ u ∈ A.toList, u.oneCell' = true) ∧ A[0]? = some (.bool false)) := ⟨by rw [← hA]; exact adr_one _ _, hA0⟩
            have i3 : 1 + k24 ≤ k62 := by have := HK30.out; have := HK32.out; omega
            have i4 : 18 < k62 := by have := HK32.out; omega
            have i5 : 0 < k62 := by have := HK32.out; omega
            have hZne : ¬ Z = #[] := by intro e; have h1 := HK32.out; rw [← hZk, e] at h1; cases h1
            have hsz1 : (bs h).size = i := hhl
            by_cases h2 : i < 2
            · have p2 : ¬ (2 : Int) ≤ (i : Int) := by omega
              generalize hsh : bs h = sh at hex1 HIH H76 H39 hsz1
              clear HIH hbr h2 hhl hh31 hA17 hA0 hsh
              cases hq : pa h false with
              | true =>
                rw [hq] at H76 hpq
                obtain ⟨hq1, hq2⟩ := quad_facts hq
                have HW : Hid (ptT l = tgt ⟨#[]⟩ false (quad (par 3 h)) p ∧ ptB l = true) := ⟨by rw [HV.out.1, hpq.2]; show withP (phT h) p = _; rw [hpq.1]; show withP (paT h false) p = _; rw [hq1]; exact withP_tgt _ _ _ hqb.1 p, by rw [HV.out.2, hpq.2]; rfl⟩
                obtain ⟨T, hT⟩ : ∃ T, (tgt ⟨#[]⟩ false (quad (par 3 h)) p).toArray = T := ⟨_, rfl⟩
                obtain ⟨M, hM⟩ : ∃ M, (tgt ⟨#[]⟩ false (quad (par 3 h)) 0).toArray = M := ⟨_, rfl⟩
                have hfold := put_addr false (quad (par 3 h)) hqb.1
                have hset := tgt_port ⟨#[]⟩ false (quad (par 3 h)) hqb.1 p
                have hTk : T.size = k62 := by rw [← hT, List.size_toArray, HK32.out]; exact tgt_length _ _ _ _ hqb.1
                have hMk : M.size = k62 := by rw [← hM, List.size_toArray, HK32.out]; exact tgt_length _ _ _ _ hqb.1
                have HT : Hid ((∀ u ∈ T.toList, u.oneCell' = true) ∧ (tgt ⟨#[]⟩ false (quad (par 3 h)) p).toArray = T) := ⟨by rw [← hT]; intro u hu; exact tgt_one _ _ _ _ u (by simpa using hu), hT⟩
                rw [hA, HZ.out.2, hM, ← HK30.out] at hfold
                rw [hM, hT] at hset
                clear hT hM
                clear hpq hA hq hq1 hq2 H39 hnp
                generalize quad (par 3 h) = qx at HW HT
                go_wp2_with (first | (go_at_call 42; refine (at_prog HP.out (HN2.out _)).mono ?_; rintro e w3 ⟨rfl, hw3⟩; subst hw3) | (go_at_call 76; refine (at_prog HP.out (H76.out _)).mono ?_; rintro e w4 ⟨rfl, hf4⟩; obtain ⟨y1, hs1, hb1, hg1⟩ := store_all (P := PD) A.toList (heap_alloc_new w4 (.cells Y 30)) (by rw [Array.length_toList, hAk, hYk]) HA.out.1; have hb1' : y1.heap[w4.heap.size]? = some (.cells A 30 (0, 0)) := (by simpa using hb1); have k1 := (Fr.alloc No w4 (.cells Y 30)).keep (hf4.keep HB.out.1); have hlt : nb < w4.heap.size := Nat.lt_of_lt_of_le (Array.getElem?_eq_some_iff.1 HB.out.1).1 hf4.size; have hb0 : y1.heap[nb]? = some (.cells Z 32 (0, 0)) := ((hg1.block _ (Array.getElem?_eq_some_iff.1 k1).1 (by omega)).trans k1); have HF4 := Lib.hid (((HB.out.2.1.trans hf4).trans (Fr.alloc No w4 (.cells Y 30))).ofNew hg1 fun k hk => .inr (by rw [hk]; exact (HB.out.2.1.trans hf4).size)); have cb : y1.cell? ⟨w4.heap.size, 0, none⟩ = some (.bool false) := (by rw [cell_of_row _ _ _ _ _ _ hb1']; exact HA.out.2); have hld : Sem.run PD (loadCellsFrom ⟨w4.heap.size, 0, none⟩ 0 k24 #[]) y1 = .ok A y1 := load_block hb1' hAk (fun j v hv => by simpa using hv); have HB0 := Lib.hid hb0; clear hb1 hb1' k1 hb0 hg1 hf4; obtain ⟨y2, hs2, hb2, hg2⟩ := store_all (P := PD) T.toList HB0.out (by rw [Array.length_toList, hTk, hZk]) HT.out.1; have hb3 : y2.heap[nb]? = some (.cells T 32 (0, 0)) := (by simpa using hb2); have HLL := Lib.hid (And.intro hb3 ((HF4.out).ofNew hg2 fun k hk => .inr (by rw [hk]; exact Nat.le_of_eq HB.out.2.2))); clear hb2 hg2 hb3) | fail)
                refine bodyPost_ret_by (results_agg_tmp rfl _ (b := nb) (k := 19) (cs := T) (Tryz.isAgg32 _) (Tryz.sizeOf32 _) rfl (load_block HLL.out.1 (by rw [← HK32.out]; exact hTk) (fun j v hv => by simpa using hv))) rfl ?_
                exact ⟨by rw [HW.out.1, HW.out.2, HT.out.2]; rfl, HLL.out.2⟩
              | false =>
                rw [hq] at H76 hpq
                clear hA hq
                cases hnm : nameP h with
                | none =>
                  have HW : Hid (ptT l = noT ∧ ptB l = false) := ⟨by rw [HV.out.1, hpq.2, hnm]; rfl, by rw [HV.out.2, hpq.2, hnm]; rfl⟩
                  rw [hnm] at H39
                  have H392 : Hid (∀ w, Calls Tryz.prog 39 #[.string sh] w fun e w' => e = .returned (.tuple #[.string ⟨#[]⟩, .bool false]) ∧ Fr No w w') := H39.out
                  clear hpq hnm H39 hnp
                  go_wp2_with (first | (go_at_call 42; refine (at_prog HP.out (HN2.out _)).mono ?_; rintro e w3 ⟨rfl, hw3⟩; subst hw3) | (go_at_call 76; refine (at_prog HP.out (H76.out _)).mono ?_; rintro e w4 ⟨rfl, hf4⟩; obtain ⟨y1, hs1, hb1, hg1⟩ := store_all (P := PD) A.toList (heap_alloc_new w4 (.cells Y 30)) (by rw [Array.length_toList, hAk, hYk]) HA.out.1; have hb1' : y1.heap[w4.heap.size]? = some (.cells A 30 (0, 0)) := (by simpa using hb1); have k1 := (Fr.alloc No w4 (.cells Y 30)).keep (hf4.keep HB.out.1); have hlt : nb < w4.heap.size := Nat.lt_of_lt_of_le (Array.getElem?_eq_some_iff.1 HB.out.1).1 hf4.size; have hb0 : y1.heap[nb]? = some (.cells Z 32 (0, 0)) := ((hg1.block _ (Array.getElem?_eq_some_iff.1 k1).1 (by omega)).trans k1); have HF4 := Lib.hid (((HB.out.2.1.trans hf4).trans (Fr.alloc No w4 (.cells Y 30))).ofNew hg1 fun k hk => .inr (by rw [hk]; exact (HB.out.2.1.trans hf4).size)); have cb : y1.cell? ⟨w4.heap.size, 0, none⟩ = some (.bool false) := (by rw [cell_of_row _ _ _ _ _ _ hb1']; exact HA.out.2); have hld : Sem.run PD (loadCellsFrom ⟨w4.heap.size, 0, none⟩ 0 k24 #[]) y1 = .ok A y1 := load_block hb1' hAk (fun j v hv => by simpa using hv); have HB0 := Lib.hid hb0; clear hb1 hb1' k1 hb0 hg1 hf4) | (go_at_call 39; refine (at_prog HP.out (H392.out _)).mono ?_; rintro e w5 ⟨rfl, hf5⟩; have HB5 := Lib.hid (hf5.keep HB0.out); have HF5 := Lib.hid (HF4.out.trans hf5); obtain ⟨y2, hs2, hb2, hg2⟩ := store_all (P := PD) Z.toList HB5.out (by rw [Array.length_toList]) HZ.out.1; have hb3 : y2.heap[nb]? = some (.cells Z 32 (0, 0)) := (by simpa using hb2); have HLL := Lib.hid (And.intro hb3 ((HF5.out).ofNew hg2 fun k hk => .inr (by rw [hk]; exact Nat.le_of_eq HB.out.2.2))); clear hb2 hg2 hb3) | fail)
                  refine bodyPost_ret_by (results_agg_tmp rfl _ (b := nb) (k := 19) (cs := Z) (Tryz.isAgg32 _) (Tryz.sizeOf32 _) rfl (load_block HLL.out.1 (by rw [← HK32.out]; exact hZk) (fun j v hv => by simpa using hv))) rfl ?_
                  exact ⟨by rw [HW.out.1, HW.out.2, HZ.out.2]; rfl, HLL.out.2⟩
                | some nl =>
                  have HW : Hid (ptT l = tgt (bs nl) false zeros p ∧ ptB l = true) := ⟨by rw [HV.out.1, hpq.2, hnm]; show withP (phT h) p = _; rw [hpq.1, hnm]; exact withP_tgt _ _ _ zeros_bytes.1 p, by rw [HV.out.2, hpq.2, hnm]; rfl⟩
                  rw [hnm] at H39
                  have H392 : Hid (∀ w, Calls Tryz.prog 39 #[.string sh] w fun e w' => e = .returned (.tuple #[.string (bs nl), .bool true]) ∧ Fr No w w') := H39.out
                  obtain ⟨T, hT⟩ : ∃ T, (tgt (bs nl) false zeros p).toArray = T := ⟨_, rfl⟩
                  obtain ⟨M, hM⟩ : ∃ M, (tgt (bs nl) false zeros 0).toArray = M := ⟨_, rfl⟩
                  have hput := tgt_name (bs nl)
                  have hset := tgt_port (bs nl) false zeros zeros_bytes.1 p
                  have hTk : T.size = k62 := by rw [← hT, List.size_toArray, HK32.out]; exact tgt_length _ _ _ _ zeros_bytes.1
                  have hMk : M.size = k62 := by rw [← hM, List.size_toArray, HK32.out]; exact tgt_length _ _ _ _ zeros_bytes.1
                  have HT : Hid ((∀ u ∈ T.toList, u.oneCell' = true) ∧ (tgt (bs nl) false zeros p).toArray = T) := ⟨by rw [← hT]; intro u hu; exact tgt_one _ _ _ _ u (by simpa using hu), hT⟩
                  rw [HZ.out.2, hM] at hput
                  rw [hM, hT] at hset
                  clear hT hM hpq hnm H39 hnp
                  generalize bs nl = sn at H392 HW HT hput
                  go_wp2_with (first | (go_at_call 42; refine (at_prog HP.out (HN2.out _)).mono ?_; rintro e w3 ⟨rfl, hw3⟩; subst hw3) | (go_at_call 76; refine (at_prog HP.out (H76.out _)).mono ?_; rintro e w4 ⟨rfl, hf4⟩; obtain ⟨y1, hs1, hb1, hg1⟩ := store_all (P := PD) A.toList (heap_alloc_new w4 (.cells Y 30)) (by rw [Array.length_toList, hAk, hYk]) HA.out.1; have hb1' : y1.heap[w4.heap.size]? = some (.cells A 30 (0, 0)) := (by simpa using hb1); have k1 := (Fr.alloc No w4 (.cells Y 30)).keep (hf4.keep HB.out.1); have hlt : nb < w4.heap.size := Nat.lt_of_lt_of_le (Array.getElem?_eq_some_iff.1 HB.out.1).1 hf4.size; have hb0 : y1.heap[nb]? = some (.cells Z 32 (0, 0)) := ((hg1.block _ (Array.getElem?_eq_some_iff.1 k1).1 (by omega)).trans k1); have HF4 := Lib.hid (((HB.out.2.1.trans hf4).trans (Fr.alloc No w4 (.cells Y 30))).ofNew hg1 fun k hk => .inr (by rw [hk]; exact (HB.out.2.1.trans hf4).size)); have cb : y1.cell? ⟨w4.heap.size, 0, none⟩ = some (.bool false) := (by rw [cell_of_row _ _ _ _ _ _ hb1']; exact HA.out.2); have hld : Sem.run PD (loadCellsFrom ⟨w4.heap.size, 0, none⟩ 0 k24 #[]) y1 = .ok A y1 := load_block hb1' hAk (fun j v hv => by simpa using hv); have HB0 := Lib.hid hb0; clear hb1 hb1' k1 hb0 hg1 hf4) | (go_at_call 39; refine (at_prog HP.out (H392.out _)).mono ?_; rintro e w5 ⟨rfl, hf5⟩; have HB5 := Lib.hid (hf5.keep HB0.out); have HF5 := Lib.hid (HF4.out.trans hf5); obtain ⟨y2, hs2, hb2, hg2⟩ := store_all (P := PD) T.toList HB5.out (by rw [Array.length_toList, hTk, hZk]) HT.out.1; have hb3 : y2.heap[nb]? = some (.cells T 32 (0, 0)) := (by simpa using hb2); have HLL := Lib.hid (And.intro hb3 ((HF5.out).ofNew hg2 fun k hk => .inr (by rw [hk]; exact Nat.le_of_eq HB.out.2.2))); clear hb2 hg2 hb3) | fail)
                  refine bodyPost_ret_by (results_agg_tmp rfl _ (b := nb) (k := 19) (cs := T) (Tryz.isAgg32 _) (Tryz.sizeOf32 _) rfl (load_block HLL.out.1 (by rw [← HK32.out]; exact hTk) (fun j v hv => by simpa using hv))) rfl ?_
                  exact ⟨by rw [HW.out.1, HW.out.2, HT.out.2]; rfl, HLL.out.2⟩
            · obtain ⟨a, ha⟩ : ∃ a, h[0]? = some a := ⟨_, List.getElem?_eq_getElem (by omega)⟩
              obtain ⟨z, hz⟩ : ∃ z, h[i - 1]? = some z := ⟨_, List.getElem?_eq_getElem (by omega)⟩
              have hx0 : ∀ w, Sem.run PD (Instr.index 9 (.string (bs h)) (.int .i64 0)) w = .ok (.int .u8 (a.toNat : Int)) w := fun w => HIH.out 0 a w ha
              have hc : ((i - 1 : Nat) : Int) = (i : Int) - 1 := by omega
              have hxz := fun w => HIH.out (i - 1) z w hz
              rw [hc] at hxz
              have p2 : (2 : Int) ≤ (i : Int) := by omega
              have hor : ¬ (a.toNat : Int) = 91 ∨ ((a.toNat : Int) = 91 ∧ ¬ (z.toNat : Int) = 93) := by
                by_cases h1 : (a.toNat : Int) = 91
                · refine .inr ⟨h1, fun h3 => ?_⟩
                  have e1 : a = 91 := UInt8.toNat_inj.1 (by show a.toNat = 91; omega)
                  have e2 : z = 93 := UInt8.toNat_inj.1 (by show z.toNat = 93; omega)
                  have : brk h = true := by
                    unfold brk
                    rw [decide_eq_true (by omega : 2 ≤ h.length), List.head?_eq_getElem?, ha, List.getLast?_eq_getElem?, hhl, hz, e1, e2]
                    rfl
                  rw [hbr] at this; cases this
                · exact .inl h1
              generalize (a.toNat : Int) = ax at hx0 hor
              generalize (z.toNat : Int) = zx at hxz hor
              generalize hsh : bs h = sh at hex1 HIH H76 H39 hsz1 hx0 hxz
              clear HIH hbr h2 hhl hh31 hA17 hA0 hc ha hz hsh
              rcases hor with pa1 | ⟨pa1, pz1⟩
              · have pb : (ax == 91) = false := by simpa using pa1
                cases hq : pa h false with
                | true =>
                  rw [hq] at H76 hpq
                  obtain ⟨hq1, hq2⟩ := quad_facts hq
                  have HW : Hid (ptT l = tgt ⟨#[]⟩ false (quad (par 3 h)) p ∧ ptB l = true) := ⟨by rw [HV.out.1, hpq.2]; show withP (phT h) p = _; rw [hpq.1]; show withP (paT h false) p = _; rw [hq1]; exact withP_tgt _ _ _ hqb.1 p, by rw [HV.out.2, hpq.2]; rfl⟩
                  obtain ⟨T, hT⟩ : ∃ T, (tgt ⟨#[]⟩ false (quad (par 3 h)) p).toArray = T := ⟨_, rfl⟩
                  obtain ⟨M, hM⟩ : ∃ M, (tgt ⟨#[]⟩ false (quad (par 3 h)) 0).toArray = M := ⟨_, rfl⟩
                  have hfold := put_addr false (quad (par 3 h)) hqb.1
                  have hset := tgt_port ⟨#[]⟩ false (quad (par 3 h)) hqb.1 p
                  have hTk : T.size = k62 := by rw [← hT, List.size_toArray, HK32.out]; exact tgt_length _ _ _ _ hqb.1
                  have hMk : M.size = k62 := by rw [← hM, List.size_toArray, HK32.out]; exact tgt_length _ _ _ _ hqb.1
                  have HT : Hid ((∀ u ∈ T.toList, u.oneCell' = true) ∧ (tgt ⟨#[]⟩ false (quad (par 3 h)) p).toArray = T) := ⟨by rw [← hT]; intro u hu; exact tgt_one _ _ _ _ u (by simpa using hu), hT⟩
                  rw [hA, HZ.out.2, hM, ← HK30.out] at hfold
                  rw [hM, hT] at hset
                  clear hT hM
                  clear hpq hA hq hq1 hq2 H39 hnp
                  generalize quad (par 3 h) = qx at HW HT
                  go_wp2_with (first | (go_at_call 42; refine (at_prog HP.out (HN2.out _)).mono ?_; rintro e w3 ⟨rfl, hw3⟩; subst hw3) | (go_at_call 76; refine (at_prog HP.out (H76.out _)).mono ?_; rintro e w4 ⟨rfl, hf4⟩; obtain ⟨y1, hs1, hb1, hg1⟩ := store_all (P := PD) A.toList (heap_alloc_new w4 (.cells Y 30)) (by rw [Array.length_toList, hAk, hYk]) HA.out.1; have hb1' : y1.heap[w4.heap.size]? = some (.cells A 30 (0, 0)) := (by simpa using hb1); have k1 := (Fr.alloc No w4 (.cells Y 30)).keep (hf4.keep HB.out.1); have hlt : nb < w4.heap.size := Nat.lt_of_lt_of_le (Array.getElem?_eq_some_iff.1 HB.out.1).1 hf4.size; have hb0 : y1.heap[nb]? = some (.cells Z 32 (0, 0)) := ((hg1.block _ (Array.getElem?_eq_some_iff.1 k1).1 (by omega)).trans k1); have HF4 := Lib.hid (((HB.out.2.1.trans hf4).trans (Fr.alloc No w4 (.cells Y 30))).ofNew hg1 fun k hk => .inr (by rw [hk]; exact (HB.out.2.1.trans hf4).size)); have cb : y1.cell? ⟨w4.heap.size, 0, none⟩ = some (.bool false) := (by rw [cell_of_row _ _ _ _ _ _ hb1']; exact HA.out.2); have hld : Sem.run PD (loadCellsFrom ⟨w4.heap.size, 0, none⟩ 0 k24 #[]) y1 = .ok A y1 := load_block hb1' hAk (fun j v hv => by simpa using hv); have HB0 := Lib.hid hb0; clear hb1 hb1' k1 hb0 hg1 hf4; obtain ⟨y2, hs2, hb2, hg2⟩ := store_all (P := PD) T.toList HB0.out (by rw [Array.length_toList, hTk, hZk]) HT.out.1; have hb3 : y2.heap[nb]? = some (.cells T 32 (0, 0)) := (by simpa using hb2); have HLL := Lib.hid (And.intro hb3 ((HF4.out).ofNew hg2 fun k hk => .inr (by rw [hk]; exact Nat.le_of_eq HB.out.2.2))); clear hb2 hg2 hb3) | fail)
                  refine bodyPost_ret_by (results_agg_tmp rfl _ (b := nb) (k := 19) (cs := T) (Tryz.isAgg32 _) (Tryz.sizeOf32 _) rfl (load_block HLL.out.1 (by rw [← HK32.out]; exact hTk) (fun j v hv => by simpa using hv))) rfl ?_
                  exact ⟨by rw [HW.out.1, HW.out.2, HT.out.2]; rfl, HLL.out.2⟩
                | false =>
                  rw [hq] at H76 hpq
                  clear hA hq
                  cases hnm : nameP h with
                  | none =>
                    have HW : Hid (ptT l = noT ∧ ptB l = false) := ⟨by rw [HV.out.1, hpq.2, hnm]; rfl, by rw [HV.out.2, hpq.2, hnm]; rfl⟩
                    rw [hnm] at H39
                    have H392 : Hid (∀ w, Calls Tryz.prog 39 #[.string sh] w fun e w' => e = .returned (.tuple #[.string ⟨#[]⟩, .bool false]) ∧ Fr No w w') := H39.out
                    clear hpq hnm H39 hnp
                    go_wp2_with (first | (go_at_call 42; refine (at_prog HP.out (HN2.out _)).mono ?_; rintro e w3 ⟨rfl, hw3⟩; subst hw3) | (go_at_call 76; refine (at_prog HP.out (H76.out _)).mono ?_; rintro e w4 ⟨rfl, hf4⟩; obtain ⟨y1, hs1, hb1, hg1⟩ := store_all (P := PD) A.toList (heap_alloc_new w4 (.cells Y 30)) (by rw [Array.length_toList, hAk, hYk]) HA.out.1; have hb1' : y1.heap[w4.heap.size]? = some (.cells A 30 (0, 0)) := (by simpa using hb1); have k1 := (Fr.alloc No w4 (.cells Y 30)).keep (hf4.keep HB.out.1); have hlt : nb < w4.heap.size := Nat.lt_of_lt_of_le (Array.getElem?_eq_some_iff.1 HB.out.1).1 hf4.size; have hb0 : y1.heap[nb]? = some (.cells Z 32 (0, 0)) := ((hg1.block _ (Array.getElem?_eq_some_iff.1 k1).1 (by omega)).trans k1); have HF4 := Lib.hid (((HB.out.2.1.trans hf4).trans (Fr.alloc No w4 (.cells Y 30))).ofNew hg1 fun k hk => .inr (by rw [hk]; exact (HB.out.2.1.trans hf4).size)); have cb : y1.cell? ⟨w4.heap.size, 0, none⟩ = some (.bool false) := (by rw [cell_of_row _ _ _ _ _ _ hb1']; exact HA.out.2); have hld : Sem.run PD (loadCellsFrom ⟨w4.heap.size, 0, none⟩ 0 k24 #[]) y1 = .ok A y1 := load_block hb1' hAk (fun j v hv => by simpa using hv); have HB0 := Lib.hid hb0; clear hb1 hb1' k1 hb0 hg1 hf4) | (go_at_call 39; refine (at_prog HP.out (H392.out _)).mono ?_; rintro e w5 ⟨rfl, hf5⟩; have HB5 := Lib.hid (hf5.keep HB0.out); have HF5 := Lib.hid (HF4.out.trans hf5); obtain ⟨y2, hs2, hb2, hg2⟩ := store_all (P := PD) Z.toList HB5.out (by rw [Array.length_toList]) HZ.out.1; have hb3 : y2.heap[nb]? = some (.cells Z 32 (0, 0)) := (by simpa using hb2); have HLL := Lib.hid (And.intro hb3 ((HF5.out).ofNew hg2 fun k hk => .inr (by rw [hk]; exact Nat.le_of_eq HB.out.2.2))); clear hb2 hg2 hb3) | fail)
                    refine bodyPost_ret_by (results_agg_tmp rfl _ (b := nb) (k := 19) (cs := Z) (Tryz.isAgg32 _) (Tryz.sizeOf32 _) rfl (load_block HLL.out.1 (by rw [← HK32.out]; exact hZk) (fun j v hv => by simpa using hv))) rfl ?_
                    exact ⟨by rw [HW.out.1, HW.out.2, HZ.out.2]; rfl, HLL.out.2⟩
                  | some nl =>
                    have HW : Hid (ptT l = tgt (bs nl) false zeros p ∧ ptB l = true) := ⟨by rw [HV.out.1, hpq.2, hnm]; show withP (phT h) p = _; rw [hpq.1, hnm]; exact withP_tgt _ _ _ zeros_bytes.1 p, by rw [HV.out.2, hpq.2, hnm]; rfl⟩
                    rw [hnm] at H39
                    have H392 : Hid (∀ w, Calls Tryz.prog 39 #[.string sh] w fun e w' => e = .returned (.tuple #[.string (bs nl), .bool true]) ∧ Fr No w w') := H39.out
                    obtain ⟨T, hT⟩ : ∃ T, (tgt (bs nl) false zeros p).toArray = T := ⟨_, rfl⟩
                    obtain ⟨M, hM⟩ : ∃ M, (tgt (bs nl) false zeros 0).toArray = M := ⟨_, rfl⟩
                    have hput := tgt_name (bs nl)
                    have hset := tgt_port (bs nl) false zeros zeros_bytes.1 p
                    have hTk : T.size = k62 := by rw [← hT, List.size_toArray, HK32.out]; exact tgt_length _ _ _ _ zeros_bytes.1
                    have hMk : M.size = k62 := by rw [← hM, List.size_toArray, HK32.out]; exact tgt_length _ _ _ _ zeros_bytes.1
                    have HT : Hid ((∀ u ∈ T.toList, u.oneCell' = true) ∧ (tgt (bs nl) false zeros p).toArray = T) := ⟨by rw [← hT]; intro u hu; exact tgt_one _ _ _ _ u (by simpa using hu), hT⟩
                    rw [HZ.out.2, hM] at hput
                    rw [hM, hT] at hset
                    clear hT hM hpq hnm H39 hnp
                    generalize bs nl = sn at H392 HW HT hput
                    go_wp2_with (first | (go_at_call 42; refine (at_prog HP.out (HN2.out _)).mono ?_; rintro e w3 ⟨rfl, hw3⟩; subst hw3) | (go_at_call 76; refine (at_prog HP.out (H76.out _)).mono ?_; rintro e w4 ⟨rfl, hf4⟩; obtain ⟨y1, hs1, hb1, hg1⟩ := store_all (P := PD) A.toList (heap_alloc_new w4 (.cells Y 30)) (by rw [Array.length_toList, hAk, hYk]) HA.out.1; have hb1' : y1.heap[w4.heap.size]? = some (.cells A 30 (0, 0)) := (by simpa using hb1); have k1 := (Fr.alloc No w4 (.cells Y 30)).keep (hf4.keep HB.out.1); have hlt : nb < w4.heap.size := Nat.lt_of_lt_of_le (Array.getElem?_eq_some_iff.1 HB.out.1).1 hf4.size; have hb0 : y1.heap[nb]? = some (.cells Z 32 (0, 0)) := ((hg1.block _ (Array.getElem?_eq_some_iff.1 k1).1 (by omega)).trans k1); have HF4 := Lib.hid (((HB.out.2.1.trans hf4).trans (Fr.alloc No w4 (.cells Y 30))).ofNew hg1 fun k hk => .inr (by rw [hk]; exact (HB.out.2.1.trans hf4).size)); have cb : y1.cell? ⟨w4.heap.size, 0, none⟩ = some (.bool false) := (by rw [cell_of_row _ _ _ _ _ _ hb1']; exact HA.out.2); have hld : Sem.run PD (loadCellsFrom ⟨w4.heap.size, 0, none⟩ 0 k24 #[]) y1 = .ok A y1 := load_block hb1' hAk (fun j v hv => by simpa using hv); have HB0 := Lib.hid hb0; clear hb1 hb1' k1 hb0 hg1 hf4) | (go_at_call 39; refine (at_prog HP.out (H392.out _)).mono ?_; rintro e w5 ⟨rfl, hf5⟩; have HB5 := Lib.hid (hf5.keep HB0.out); have HF5 := Lib.hid (HF4.out.trans hf5); obtain ⟨y2, hs2, hb2, hg2⟩ := store_all (P := PD) T.toList HB5.out (by rw [Array.length_toList, hTk, hZk]) HT.out.1; have hb3 : y2.heap[nb]? = some (.cells T 32 (0, 0)) := (by simpa using hb2); have HLL := Lib.hid (And.intro hb3 ((HF5.out).ofNew hg2 fun k hk => .inr (by rw [hk]; exact Nat.le_of_eq HB.out.2.2))); clear hb2 hg2 hb3) | fail)
                    refine bodyPost_ret_by (results_agg_tmp rfl _ (b := nb) (k := 19) (cs := T) (Tryz.isAgg32 _) (Tryz.sizeOf32 _) rfl (load_block HLL.out.1 (by rw [← HK32.out]; exact hTk) (fun j v hv => by simpa using hv))) rfl ?_
                    exact ⟨by rw [HW.out.1, HW.out.2, HT.out.2]; rfl, HLL.out.2⟩
              · subst pa1
                have pb : (zx == 93) = false := by simpa using pz1
                cases hq : pa h false with
                | true =>
                  rw [hq] at H76 hpq
                  obtain ⟨hq1, hq2⟩ := quad_facts hq
                  have HW : Hid (ptT l = tgt ⟨#[]⟩ false (quad (par 3 h)) p ∧ ptB l = true) := ⟨by rw [HV.out.1, hpq.2]; show withP (phT h) p = _; rw [hpq.1]; show withP (paT h false) p = _; rw [hq1]; exact withP_tgt _ _ _ hqb.1 p, by rw [HV.out.2, hpq.2]; rfl⟩
                  obtain ⟨T, hT⟩ : ∃ T, (tgt ⟨#[]⟩ false (quad (par 3 h)) p).toArray = T := ⟨_, rfl⟩
                  obtain ⟨M, hM⟩ : ∃ M, (tgt ⟨#[]⟩ false (quad (par 3 h)) 0).toArray = M := ⟨_, rfl⟩
                  have hfold := put_addr false (quad (par 3 h)) hqb.1
                  have hset := tgt_port ⟨#[]⟩ false (quad (par 3 h)) hqb.1 p
                  have hTk : T.size = k62 := by rw [← hT, List.size_toArray, HK32.out]; exact tgt_length _ _ _ _ hqb.1
                  have hMk : M.size = k62 := by rw [← hM, List.size_toArray, HK32.out]; exact tgt_length _ _ _ _ hqb.1
                  have HT : Hid ((∀ u ∈ T.toList, u.oneCell' = true) ∧ (tgt ⟨#[]⟩ false (quad (par 3 h)) p).toArray = T) := ⟨by rw [← hT]; intro u hu; exact tgt_one _ _ _ _ u (by simpa using hu), hT⟩
                  rw [hA, HZ.out.2, hM, ← HK30.out] at hfold
                  rw [hM, hT] at hset
                  clear hT hM
                  clear hpq hA hq hq1 hq2 H39 hnp
                  generalize quad (par 3 h) = qx at HW HT
                  go_wp2_with (first | (go_at_call 42; refine (at_prog HP.out (HN2.out _)).mono ?_; rintro e w3 ⟨rfl, hw3⟩; subst hw3) | (go_at_call 76; refine (at_prog HP.out (H76.out _)).mono ?_; rintro e w4 ⟨rfl, hf4⟩; obtain ⟨y1, hs1, hb1, hg1⟩ := store_all (P := PD) A.toList (heap_alloc_new w4 (.cells Y 30)) (by rw [Array.length_toList, hAk, hYk]) HA.out.1; have hb1' : y1.heap[w4.heap.size]? = some (.cells A 30 (0, 0)) := (by simpa using hb1); have k1 := (Fr.alloc No w4 (.cells Y 30)).keep (hf4.keep HB.out.1); have hlt : nb < w4.heap.size := Nat.lt_of_lt_of_le (Array.getElem?_eq_some_iff.1 HB.out.1).1 hf4.size; have hb0 : y1.heap[nb]? = some (.cells Z 32 (0, 0)) := ((hg1.block _ (Array.getElem?_eq_some_iff.1 k1).1 (by omega)).trans k1); have HF4 := Lib.hid (((HB.out.2.1.trans hf4).trans (Fr.alloc No w4 (.cells Y 30))).ofNew hg1 fun k hk => .inr (by rw [hk]; exact (HB.out.2.1.trans hf4).size)); have cb : y1.cell? ⟨w4.heap.size, 0, none⟩ = some (.bool false) := (by rw [cell_of_row _ _ _ _ _ _ hb1']; exact HA.out.2); have hld : Sem.run PD (loadCellsFrom ⟨w4.heap.size, 0, none⟩ 0 k24 #[]) y1 = .ok A y1 := load_block hb1' hAk (fun j v hv => by simpa using hv); have HB0 := Lib.hid hb0; clear hb1 hb1' k1 hb0 hg1 hf4; obtain ⟨y2, hs2, hb2, hg2⟩ := store_all (P := PD) T.toList HB0.out (by rw [Array.length_toList, hTk, hZk]) HT.out.1; have hb3 : y2.heap[nb]? = some (.cells T 32 (0, 0)) := (by simpa using hb2); have HLL := Lib.hid (And.intro hb3 ((HF4.out).ofNew hg2 fun k hk => .inr (by rw [hk]; exact Nat.le_of_eq HB.out.2.2))); clear hb2 hg2 hb3) | fail)
                  refine bodyPost_ret_by (results_agg_tmp rfl _ (b := nb) (k := 19) (cs := T) (Tryz.isAgg32 _) (Tryz.sizeOf32 _) rfl (load_block HLL.out.1 (by rw [← HK32.out]; exact hTk) (fun j v hv => by simpa using hv))) rfl ?_
                  exact ⟨by rw [HW.out.1, HW.out.2, HT.out.2]; rfl, HLL.out.2⟩
                | false =>
                  rw [hq] at H76 hpq
                  clear hA hq
                  cases hnm : nameP h with
                  | none =>
                    have HW : Hid (ptT l = noT ∧ ptB l = false) := ⟨by rw [HV.out.1, hpq.2, hnm]; rfl, by rw [HV.out.2, hpq.2, hnm]; rfl⟩
                    rw [hnm] at H39
                    have H392 : Hid (∀ w, Calls Tryz.prog 39 #[.string sh] w fun e w' => e = .returned (.tuple #[.string ⟨#[]⟩, .bool false]) ∧ Fr No w w') := H39.out
                    clear hpq hnm H39 hnp
                    go_wp2_with (first | (go_at_call 42; refine (at_prog HP.out (HN2.out _)).mono ?_; rintro e w3 ⟨rfl, hw3⟩; subst hw3) | (go_at_call 76; refine (at_prog HP.out (H76.out _)).mono ?_; rintro e w4 ⟨rfl, hf4⟩; obtain ⟨y1, hs1, hb1, hg1⟩ := store_all (P := PD) A.toList (heap_alloc_new w4 (.cells Y 30)) (by rw [Array.length_toList, hAk, hYk]) HA.out.1; have hb1' : y1.heap[w4.heap.size]? = some (.cells A 30 (0, 0)) := (by simpa using hb1); have k1 := (Fr.alloc No w4 (.cells Y 30)).keep (hf4.keep HB.out.1); have hlt : nb < w4.heap.size := Nat.lt_of_lt_of_le (Array.getElem?_eq_some_iff.1 HB.out.1).1 hf4.size; have hb0 : y1.heap[nb]? = some (.cells Z 32 (0, 0)) := ((hg1.block _ (Array.getElem?_eq_some_iff.1 k1).1 (by omega)).trans k1); have HF4 := Lib.hid (((HB.out.2.1.trans hf4).trans (Fr.alloc No w4 (.cells Y 30))).ofNew hg1 fun k hk => .inr (by rw [hk]; exact (HB.out.2.1.trans hf4).size)); have cb : y1.cell? ⟨w4.heap.size, 0, none⟩ = some (.bool false) := (by rw [cell_of_row _ _ _ _ _ _ hb1']; exact HA.out.2); have hld : Sem.run PD (loadCellsFrom ⟨w4.heap.size, 0, none⟩ 0 k24 #[]) y1 = .ok A y1 := load_block hb1' hAk (fun j v hv => by simpa using hv); have HB0 := Lib.hid hb0; clear hb1 hb1' k1 hb0 hg1 hf4) | (go_at_call 39; refine (at_prog HP.out (H392.out _)).mono ?_; rintro e w5 ⟨rfl, hf5⟩; have HB5 := Lib.hid (hf5.keep HB0.out); have HF5 := Lib.hid (HF4.out.trans hf5); obtain ⟨y2, hs2, hb2, hg2⟩ := store_all (P := PD) Z.toList HB5.out (by rw [Array.length_toList]) HZ.out.1; have hb3 : y2.heap[nb]? = some (.cells Z 32 (0, 0)) := (by simpa using hb2); have HLL := Lib.hid (And.intro hb3 ((HF5.out).ofNew hg2 fun k hk => .inr (by rw [hk]; exact Nat.le_of_eq HB.out.2.2))); clear hb2 hg2 hb3) | fail)
                    refine bodyPost_ret_by (results_agg_tmp rfl _ (b := nb) (k := 19) (cs := Z) (Tryz.isAgg32 _) (Tryz.sizeOf32 _) rfl (load_block HLL.out.1 (by rw [← HK32.out]; exact hZk) (fun j v hv => by simpa using hv))) rfl ?_
                    exact ⟨by rw [HW.out.1, HW.out.2, HZ.out.2]; rfl, HLL.out.2⟩
                  | some nl =>
                    have HW : Hid (ptT l = tgt (bs nl) false zeros p ∧ ptB l = true) := ⟨by rw [HV.out.1, hpq.2, hnm]; show withP (phT h) p = _; rw [hpq.1, hnm]; exact withP_tgt _ _ _ zeros_bytes.1 p, by rw [HV.out.2, hpq.2, hnm]; rfl⟩
                    rw [hnm] at H39
                    have H392 : Hid (∀ w, Calls Tryz.prog 39 #[.string sh] w fun e w' => e = .returned (.tuple #[.string (bs nl), .bool true]) ∧ Fr No w w') := H39.out
                    obtain ⟨T, hT⟩ : ∃ T, (tgt (bs nl) false zeros p).toArray = T := ⟨_, rfl⟩
                    obtain ⟨M, hM⟩ : ∃ M, (tgt (bs nl) false zeros 0).toArray = M := ⟨_, rfl⟩
                    have hput := tgt_name (bs nl)
                    have hset := tgt_port (bs nl) false zeros zeros_bytes.1 p
                    have hTk : T.size = k62 := by rw [← hT, List.size_toArray, HK32.out]; exact tgt_length _ _ _ _ zeros_bytes.1
                    have hMk : M.size = k62 := by rw [← hM, List.size_toArray, HK32.out]; exact tgt_length _ _ _ _ zeros_bytes.1
                    have HT : Hid ((∀ u ∈ T.toList, u.oneCell' = true) ∧ (tgt (bs nl) false zeros p).toArray = T) := ⟨by rw [← hT]; intro u hu; exact tgt_one _ _ _ _ u (by simpa using hu), hT⟩
                    rw [HZ.out.2, hM] at hput
                    rw [hM, hT] at hset
                    clear hT hM hpq hnm H39 hnp
                    generalize bs nl = sn at H392 HW HT hput
                    go_wp2_with (first | (go_at_call 42; refine (at_prog HP.out (HN2.out _)).mono ?_; rintro e w3 ⟨rfl, hw3⟩; subst hw3) | (go_at_call 76; refine (at_prog HP.out (H76.out _)).mono ?_; rintro e w4 ⟨rfl, hf4⟩; obtain ⟨y1, hs1, hb1, hg1⟩ := store_all (P := PD) A.toList (heap_alloc_new w4 (.cells Y 30)) (by rw [Array.length_toList, hAk, hYk]) HA.out.1; have hb1' : y1.heap[w4.heap.size]? = some (.cells A 30 (0, 0)) := (by simpa using hb1); have k1 := (Fr.alloc No w4 (.cells Y 30)).keep (hf4.keep HB.out.1); have hlt : nb < w4.heap.size := Nat.lt_of_lt_of_le (Array.getElem?_eq_some_iff.1 HB.out.1).1 hf4.size; have hb0 : y1.heap[nb]? = some (.cells Z 32 (0, 0)) := ((hg1.block _ (Array.getElem?_eq_some_iff.1 k1).1 (by omega)).trans k1); have HF4 := Lib.hid (((HB.out.2.1.trans hf4).trans (Fr.alloc No w4 (.cells Y 30))).ofNew hg1 fun k hk => .inr (by rw [hk]; exact (HB.out.2.1.trans hf4).size)); have cb : y1.cell? ⟨w4.heap.size, 0, none⟩ = some (.bool false) := (by rw [cell_of_row _ _ _ _ _ _ hb1']; exact HA.out.2); have hld : Sem.run PD (loadCellsFrom ⟨w4.heap.size, 0, none⟩ 0 k24 #[]) y1 = .ok A y1 := load_block hb1' hAk (fun j v hv => by simpa using hv); have HB0 := Lib.hid hb0; clear hb1 hb1' k1 hb0 hg1 hf4) | (go_at_call 39; refine (at_prog HP.out (H392.out _)).mono ?_; rintro e w5 ⟨rfl, hf5⟩; have HB5 := Lib.hid (hf5.keep HB0.out); have HF5 := Lib.hid (HF4.out.trans hf5); obtain ⟨y2, hs2, hb2, hg2⟩ := store_all (P := PD) T.toList HB5.out (by rw [Array.length_toList, hTk, hZk]) HT.out.1; have hb3 : y2.heap[nb]? = some (.cells T 32 (0, 0)) := (by simpa using hb2); have HLL := Lib.hid (And.intro hb3 ((HF5.out).ofNew hg2 fun k hk => .inr (by rw [hk]; exact Nat.le_of_eq HB.out.2.2))); clear hb2 hg2 hb3) | fail)
                    refine bodyPost_ret_by (results_agg_tmp rfl _ (b := nb) (k := 19) (cs := T) (Tryz.isAgg32 _) (Tryz.sizeOf32 _) rfl (load_block HLL.out.1 (by rw [← HK32.out]; exact hTk) (fun j v hv => by simpa using hv))) rfl ?_
                    exact ⟨by rw [HW.out.1, HW.out.2, HT.out.2]; rfl, HLL.out.2⟩
    · obtain ⟨x, hx⟩ : ∃ x, l[j]? = some x := ⟨_, List.getElem?_eq_getElem (by omega)⟩
      have hix : Sem.run PD (Instr.index 9 (.string s) (.int .i64 j)) wr = .ok (.int .u8 (x.toNat : Int)) wr := by
        have h := HIX.out j x wr hx
        exact h
      have htk : lastc 58 (l.take (j + 1)) = if x = 58 then some j else lastc 58 (l.take j) := by
        rw [List.take_add_one, hx]
        show lastc 58 (l.take j ++ [x]) = _
        rw [lastc_snoc, List.length_take, Nat.min_eq_left hjl]
      have hlt : (j : Int) < (l.length : Int) := by omega
      by_cases h58 : x = 58
      · have hbx : (((x.toNat : Nat) : Int) == 58) = true := by rw [h58]; rfl
        have HT : Hid (lastN (lastc 58 (l.take (j + 1))) = (j : Int)) := by show _ = _; rw [htk, if_pos h58]; rfl
        clear htk hx h58
        generalize (x.toNat : Int) = xi at hix hbx
        generalize lastN (lastc 58 (l.take j)) = m
        go_wp2_with fail
        go_roundg (l.length - j)
        case measure => exact hjg
        case rel => exact ⟨j + 1, by go_num, by rw [HT.out], by omega, by omega, rfl⟩
      · have hbx : (((x.toNat : Nat) : Int) == 58) = false := by
          have h1 : x.toNat ≠ 58 := fun e => h58 (UInt8.toNat_inj.1 (by rw [e]; rfl))
          simp; omega
        have HT : Hid (lastN (lastc 58 (l.take (j + 1))) = lastN (lastc 58 (l.take j))) := by show _ = _; rw [htk, if_neg h58]
        clear htk hx h58
        generalize (x.toNat : Int) = xi at hix hbx
        generalize lastN (lastc 58 (l.take j)) = m at HT ⊢
        go_wp2_with fail
        go_roundg (l.length - j)
        case measure => exact hjg
        case rel => exact ⟨j + 1, by go_num, by rw [HT.out], by omega, by omega, rfl⟩
end Go.Proofs.YtmhnailcmlomiaaGreatDoor
