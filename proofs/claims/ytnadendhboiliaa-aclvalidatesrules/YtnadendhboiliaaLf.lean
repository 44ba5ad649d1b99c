/-
  THE LAW AclValidatesRules: its walk; make at rules.
  Conditions: the list lies in memory.
-/
import Derived.Test.YtnadendhboiliaaLa
import Derived.OwnWalk
namespace Go.Proofs.Ytnadendhboiliaa
open Go.ChangeShapes Go.WideShapes Go.ChangeAt Go.RowKit
set_option linter.unusedVariables false

theorem made_rules (m : Nat) : (madeCells (ruC zRu).toArray (m * 22)).toList = flatR (List.replicate m zRu) := by
  have hok : okL (List.replicate m zRu) := fun r hr => by rw [(List.mem_replicate.1 hr).2]; exact zeros_bytes
  have hlen : (flatR (List.replicate m zRu)).length = m * 22 := by rw [flatR_length hok, List.length_replicate]
  apply List.ext_getElem?
  intro j
  by_cases hj : j < m * 22
  · have hi : j / 22 < m := by omega
    obtain ⟨u, hu⟩ : ∃ u, (ruC zRu)[j % 22]? = some u := ⟨_, List.getElem?_eq_getElem (by rw [ruC_length zeros_bytes.1]; omega)⟩
    have h1 := flatR_get hok (i := j / 22) (q := zRu) (by rw [List.getElem?_replicate, if_pos hi]) hu
    rw [show j / 22 * 22 + j % 22 = j by omega] at h1
    rw [h1]
    have hs : (ruC zRu).toArray.size = 22 := rfl
    unfold madeCells
    rw [Array.getElem?_toList, Array.getElem?_map, Array.getElem?_range, if_pos hj, Option.map_some, hs]
    rw [← hu, ← List.getElem?_toArray, getElem!_pos _ _ (by rw [hs]; omega), Array.getElem?_eq_getElem (by rw [hs]; omega)]
  · rw [List.getElem?_eq_none (by rw [Array.length_toList, size_madeCells]; omega), List.getElem?_eq_none (by omega)]
theorem law_make30P {P : Program} (hP : P = Try.prog) (w : World) {ops : Array Oper} {rest : List Oper} {o : Oper} {a : Act} {Q : Exit → Act → World → Prop} (hg : o.guard = none) (l c : Operand) (hop : o.op = Op.makeSlice 22 l c) (n : Nat) (hl : a.eval l = .int .i64 (n : Int)) (hc : a.eval c = .int .i64 (n : Int)) (hn : n ≤ 1000)
    (hK : ∀ w', w'.ownsRow w.heap.size 30 22 (.slice (some ⟨w.heap.size, 0, none⟩) n n) n (flatR (List.replicate n zRu)) → Fr No w w' → wpList P ops Q rest (a.put o.dst (.slice (some ⟨w.heap.size, 0, none⟩) n n)) w') : wpList P ops Q (o :: rest) a w := by
  subst hP
  obtain ⟨ie, h1, h2, h3, h4⟩ := info_parts (P := Try.prog) (e := 30) (z := some (.agg (ruC zRu).toArray)) (s := 22) (b := 72) (by kernel_rfl)
  refine wpList_make_full w hg l c 22 hop w.heap.size 30 ie (.agg (ruC zRu).toArray) 22 Try.underlying22 h1 h2 h3 .i64 .i64 _ _ n hl hc rfl rfl (by rw [h4]; omega) (by unfold maxLen; omega) (Nat.le_refl _) fun w' ho hg' => hK w' ?_ (Fr.grown hg' fun k hk => by cases hk)
  rw [← made_rules]
  exact ho
theorem zRu_valid : vR zRu = true := by decide +kernel
theorem vRs_made (m : Nat) : vRs (List.replicate m zRu) = decide (m ≤ 32) := by
  unfold vRs
  rw [List.length_replicate, List.all_replicate]
  split
  · simp
  · rw [zRu_valid, Bool.and_true]
theorem okL_made (m : Nat) : okL (List.replicate m zRu) := fun r hr => by rw [(List.mem_replicate.1 hr).2]; exact zeros_bytes

set_option maxHeartbeats 16000000 in
set_option maxRecDepth 100000 in
theorem validates_walk (a : Option Addr) (n cp : Nat) (k : Int) (w : World) (ha : InR w a n) :
    Calls Try.prog 3 #[.slice a n cp, .int .i64 k] w fun e w' => e = .returned (.bool true) ∧ Fr No w w' := by
  obtain ⟨L0, hL0, hr0⟩ := ha.row
  have hmax := ha.1
  have HR0 := Lib.hid hr0
  have HL0 := Lib.hid hL0
  have HN : Hid (∀ w', Fr No w w' → Calls Try.prog 11 #[.slice a n cp] w' (NewP L0 w')) := fun w' hf => new_any L0 n hL0 a cp w' (hr0.no hf)
  have HNY : Hid (vRs L0 = true → ∀ w', Fr No w w' → Calls Try.prog 11 #[.slice a n cp] w' fun e w'' => (∃ x, e = .returned (.tuple #[.pointer (some ⟨x, 0, none⟩), .int .i64 0])) ∧ Fr No w' w'') := fun hv w' hf => by
    refine (new_yes L0 n hL0 hv a cp w' (hr0.no hf)).mono ?_
    rintro e w'' ⟨⟨x, tb, ra, rc, T, X, he, hI⟩, hf⟩
    exact ⟨⟨x, he⟩, hf⟩
  have HNN : Hid (vRs L0 = false → ∀ w', Fr No w w' → Calls Try.prog 11 #[.slice a n cp] w' fun e w'' => e = .returned (.tuple #[.pointer none, .int .i64 1]) ∧ Fr No w' w'') := fun hv w' hf => new_no L0 n hL0 hv a cp w' (hr0.no hf)
  have HV12 : Hid (∀ w', Fr No w w' → Calls Try.prog 12 #[.slice a n cp] w' fun e w'' => e = .returned (.bool (vRs L0)) ∧ Fr No w' w'') := fun w' hf => vrs_ref L0 n hL0 hmax a cp w' (hr0.no hf)
  obtain ⟨m, hm, hmod⟩ := mod_fix k 40 (by decide) (by decide)
  have HM : Hid (∀ w', Calls Try.prog 13 #[.int .i64 k, .int .i64 40] w' fun e w'' => e = .returned (.int .i64 m) ∧ w'' = w') := hmod
  have HMY : Hid (m ≤ 32 → ∀ (w' : World) (g : Nat), w'.ownsRow g 30 22 (.slice (some ⟨g, 0, none⟩) m m) m (flatR (List.replicate m zRu)) → Calls Try.prog 11 #[.slice (some ⟨g, 0, none⟩) m m] w' fun e w'' => (∃ x, e = .returned (.tuple #[.pointer (some ⟨x, 0, none⟩), .int .i64 0])) ∧ Fr No w' w'') := fun hm w' g ho => by
    refine (new_yes (List.replicate m zRu) m List.length_replicate (by rw [vRs_made, decide_eq_true hm]) _ m w' (RowR.own (okL_made m) ho).1).mono ?_
    rintro e w'' ⟨⟨x, tb, ra, rc, T, X, he, hI⟩, hf⟩
    exact ⟨⟨x, he⟩, hf⟩
  have HMN : Hid (¬ m ≤ 32 → ∀ (w' : World) (g : Nat), w'.ownsRow g 30 22 (.slice (some ⟨g, 0, none⟩) m m) m (flatR (List.replicate m zRu)) → Calls Try.prog 11 #[.slice (some ⟨g, 0, none⟩) m m] w' fun e w'' => e = .returned (.tuple #[.pointer none, .int .i64 1]) ∧ Fr No w' w'') := fun hm w' g ho => new_no (List.replicate m zRu) m List.length_replicate (by rw [vRs_made, decide_eq_false hm]) _ m w' (RowR.own (okL_made m) ho).1
  clear hr0 hL0 hmod ha HN
  go_enter Try.func3, Try.ntmps3
  have t3 := Try.underlying3
  have u3 := Try.runUnderlying3
  have g3 := Try.isAgg3
  have z3 := Try.sizeOf3
  have t4 := Try.underlying4
  have u4 := Try.runUnderlying4
  have g4 := Try.isAgg4
  have z4 := Try.sizeOf4
  have t22 := Try.underlying22
  have u22 := Try.runUnderlying22
  have g22 := Try.isAgg22
  have z22 := Try.sizeOf22
  have t30 := Try.underlying30
  have u30 := Try.runUnderlying30
  have g30 := Try.isAgg30
  have z30 := Try.sizeOf30
  have t32 := Try.underlying32
  have u32 := Try.runUnderlying32
  have g32 := Try.isAgg32
  have z32 := Try.sizeOf32
  have t33 := Try.underlying33
  have u33 := Try.runUnderlying33
  have g33 := Try.isAgg33
  have z33 := Try.sizeOf33
  have c8 := Try.call8
  have c9 := Try.call9
  have c10 := Try.call10
  have c11 := Try.call11
  have c12 := Try.call12
  have c13 := Try.call13
  have c14 := Try.call14
  have mixed : Try.prog.follows .mixedOrders = true := by kernel_rfl
  obtain ⟨k22, hk22⟩ : ∃ k, k = 22 := ⟨_, rfl⟩
  rw [← hk22] at z30
  have nk22 : ¬ k22 = 0 := by omega
  have HK30 := Lib.hid hk22
  have hP : Try.prog = PD := rfl
  rw [hP] at t3 u3 g3 z3 t4 u4 g4 z4 t22 u22 g22 z22 t30 u30 g30 z30 t32 u32 g32 z32 t33 u33 g33 z33 c8 c9 c10 c11 c12 c13 c14 mixed ⊢
  have HP := Lib.hid hP.symm
  clear hP hk22
  go_wp2_with fail
  go_loopg [5] 42 (fun g s wr => ∃ (i : Nat), s = .int .i64 i ∧ i ≤ 40 ∧ 41 - i < g ∧ Hid (Fr No w wr))
  case atStart => exact ⟨0, by go_num, by omega, by omega, Fr.refl _ _⟩
  case round =>
    obtain ⟨i, rfl, hi40, hig, HR⟩ := hrel
    have p1 : (0 : Int) ≤ (i : Int) := by omega
    by_cases hlx : i < n ∧ i < 40
    · obtain ⟨hlt, hl40⟩ := hlx
      obtain ⟨q, hq⟩ : ∃ q, L0[i]? = some q := ⟨_, List.getElem?_eq_getElem (by rw [HL0.out]; exact hlt)⟩
      obtain ⟨b, o, rfl, hqb, hload⟩ := HR0.out.cell hq
      obtain ⟨K, hK, hKs, -⟩ := ru_letter q hqb
      have HS : Hid (∀ w', Fr No wr w' → Fr No wr w' ∧ Sem.run PD (loadCellsFrom ⟨b, o + i * k22, none⟩ 0 k22 #[]) w' = .ok K w') := fun w' hf => ⟨hf, by rw [HK30.out, ← hK]; exact (hload w' (HR.out.trans hf)).1 PD⟩
      have HRG : Hid (∀ w', Calls Try.prog 10 #[.agg K] w' (GenR w')) := fun w' => by rw [← hK]; exact rule_gen q hqb w'
      obtain ⟨v, hv⟩ : ∃ v, vR q = v := ⟨_, rfl⟩
      have HV8 : Hid (∀ w', Calls Try.prog 8 #[.agg K] w' fun e w'' => e = .returned (.bool v) ∧ Fr No w' w'') := fun w' => by rw [← hK, ← hv]; exact vr_any q hqb w'
      have HV9 : Hid (∀ w', Calls Try.prog 9 #[.agg K] w' fun e w'' => e = .returned (.bool v) ∧ Fr No w' w'') := fun w' => by rw [← hK, ← hv]; exact vr_ref q hqb w'
      have p2 : (i : Int) < (n : Int) := by omega
      have p3 : (i : Int) < 40 := by omega
      clear hq hqb hload hK hKs hv
      go_upto_region 4 with fail
      have hS0 := HS.out _ (Fr.drew No wr)
      have q1 : (v == v) = true := by simp
      go_region_held3 (fun w' => Fr No wr w' ∧ Sem.run PD (loadCellsFrom ⟨b, o + i * k22, none⟩ 0 k22 #[]) w' = .ok K w') (first | assumption | (with_reducible exact HS.out _ (by assumption))) (first | (go_at_call 8; first | ((with_reducible refine (at_prog HP.out (HV8.out _)).mono ?_); rintro e w3 ⟨rfl, hf3⟩; have K3 : Fr No wr w3 := Fr.trans (And.left (by assumption)) hf3; clear hf3) | ((with_reducible refine (at_prog HP.out (HV82.out _)).mono ?_); rintro e w3 ⟨rfl, hf3⟩; have K3 : Fr No wr w3 := Fr.trans (And.left (by assumption)) hf3; clear hf3)) | (go_at_call 9; ((with_reducible refine (at_prog HP.out (HV9.out _)).mono ?_); rintro e w3 ⟨rfl, hf3⟩; have K3 : Fr No wr w3 := Fr.trans (And.left (by assumption)) hf3; clear hf3)) | (go_at_call 10; ((with_reducible refine (at_prog HP.out (HRG.out _)).mono ?_); rintro e w3 ⟨r, hrb, hrv, rfl, hf3⟩; obtain ⟨K2, hK2⟩ : ∃ K, (ruC r).toArray = K := ⟨_, rfl⟩; rw [hK2]; have HV82 : Hid (∀ w', Calls Try.prog 8 #[.agg K2] w' fun e w'' => e = .returned (.bool true) ∧ Fr No w' w'') := (fun w' => by rw [← hK2, ← hrv]; exact vr_any r hrb w'); have K3 : Fr No wr w3 := Fr.trans (And.left (by assumption)) hf3; clear hf3 hK2 hrb hrv)))
      all_goals go_wp2_with fail
      all_goals (
        go_roundg (41 - i)
        case measure => exact hig
        case rel => exact ⟨i + 1, by go_num, by omega, by omega, HR.out.trans (by assumption)⟩)
    · have hx : ¬ ((i : Int) < (n : Int)) ∨ ((i : Int) < (n : Int) ∧ ¬ ((i : Int) < 40)) := by omega
      have K0 : Fr No w wr := HR.out
      have hm1000 : m ≤ 1000 := by omega
      have HHM := Lib.hid hm
      clear hm
      cases hvv : vRs L0 with
      | true =>
        have HN1 := Lib.hid (HNY.out hvv)
        have HV1 := HV12
        rw [hvv] at HV1
        clear HNY HNN HV12 hvv
        by_cases hms : m ≤ 32
        · have HN2 := Lib.hid (HMY.out hms)
          have p9 : (m : Int) ≤ 32 := by omega
          clear HMY HMN hms
          rcases hx with q1 | ⟨q1, q2⟩
          · go_wp2_with (first | (go_at_call 11; first | ((with_reducible refine (at_prog HP.out (HN1.out _ (by assumption))).mono ?_); rintro e wv ⟨⟨x, rfl⟩, hv⟩; have K : Fr No w wv := Fr.trans (by assumption) hv; clear hv) | ((with_reducible refine (at_prog HP.out (HN2.out _ _ (by assumption))).mono ?_); rintro e wv ⟨⟨x2, rfl⟩, hv⟩; have K : Fr No w wv := Fr.trans (by assumption) hv; clear hv)) | (go_at_call 12; ((with_reducible refine (at_prog HP.out (HV1.out _ (by assumption))).mono ?_); rintro e wv ⟨rfl, hv⟩; have K : Fr No w wv := Fr.trans (by assumption) hv; clear hv)) | (go_at_call 13; ((with_reducible refine (at_prog HP.out (HM.out _)).mono ?_); rintro e wv ⟨rfl, hw⟩; replace hw := hw.symm; subst hw)) | (go_at_call 14; ((with_reducible refine (at_prog HP.out (awake_any _)).mono ?_); rintro e wv ⟨rfl, hv⟩; have K : Fr No w wv := Fr.trans (by assumption) hv; clear hv)) | (refine law_make30P HP.out _ rfl (.tmp 69) (.tmp 69) rfl m rfl rfl hm1000 ?_; intro wv ho hv; have K : Fr No w wv := Fr.trans (by assumption) hv; clear hv) | fail)
            go_ret
            exact ⟨rfl, by assumption⟩
          · go_wp2_with (first | (go_at_call 11; first | ((with_reducible refine (at_prog HP.out (HN1.out _ (by assumption))).mono ?_); rintro e wv ⟨⟨x, rfl⟩, hv⟩; have K : Fr No w wv := Fr.trans (by assumption) hv; clear hv) | ((with_reducible refine (at_prog HP.out (HN2.out _ _ (by assumption))).mono ?_); rintro e wv ⟨⟨x2, rfl⟩, hv⟩; have K : Fr No w wv := Fr.trans (by assumption) hv; clear hv)) | (go_at_call 12; ((with_reducible refine (at_prog HP.out (HV1.out _ (by assumption))).mono ?_); rintro e wv ⟨rfl, hv⟩; have K : Fr No w wv := Fr.trans (by assumption) hv; clear hv)) | (go_at_call 13; ((with_reducible refine (at_prog HP.out (HM.out _)).mono ?_); rintro e wv ⟨rfl, hw⟩; replace hw := hw.symm; subst hw)) | (go_at_call 14; ((with_reducible refine (at_prog HP.out (awake_any _)).mono ?_); rintro e wv ⟨rfl, hv⟩; have K : Fr No w wv := Fr.trans (by assumption) hv; clear hv)) | (refine law_make30P HP.out _ rfl (.tmp 69) (.tmp 69) rfl m rfl rfl hm1000 ?_; intro wv ho hv; have K : Fr No w wv := Fr.trans (by assumption) hv; clear hv) | fail)
            go_ret
            exact ⟨rfl, by assumption⟩
        · have HN2 := Lib.hid (HMN.out hms)
          have p9 : ¬ (m : Int) ≤ 32 := by omega
          clear HMY HMN hms
          rcases hx with q1 | ⟨q1, q2⟩
          · go_wp2_with (first | (go_at_call 11; first | ((with_reducible refine (at_prog HP.out (HN1.out _ (by assumption))).mono ?_); rintro e wv ⟨⟨x, rfl⟩, hv⟩; have K : Fr No w wv := Fr.trans (by assumption) hv; clear hv) | ((with_reducible refine (at_prog HP.out (HN2.out _ _ (by assumption))).mono ?_); rintro e wv ⟨rfl, hv⟩; have K : Fr No w wv := Fr.trans (by assumption) hv; clear hv)) | (go_at_call 12; ((with_reducible refine (at_prog HP.out (HV1.out _ (by assumption))).mono ?_); rintro e wv ⟨rfl, hv⟩; have K : Fr No w wv := Fr.trans (by assumption) hv; clear hv)) | (go_at_call 13; ((with_reducible refine (at_prog HP.out (HM.out _)).mono ?_); rintro e wv ⟨rfl, hw⟩; replace hw := hw.symm; subst hw)) | (go_at_call 14; ((with_reducible refine (at_prog HP.out (awake_any _)).mono ?_); rintro e wv ⟨rfl, hv⟩; have K : Fr No w wv := Fr.trans (by assumption) hv; clear hv)) | (refine law_make30P HP.out _ rfl (.tmp 69) (.tmp 69) rfl m rfl rfl hm1000 ?_; intro wv ho hv; have K : Fr No w wv := Fr.trans (by assumption) hv; clear hv) | fail)
            go_ret
            exact ⟨congrArg (fun b => Ending.returned (.bool b)) (show (!decide ((m : Int) ≤ 32)) = true by rw [decide_eq_false (by omega)]; rfl), by assumption⟩
          · go_wp2_with (first | (go_at_call 11; first | ((with_reducible refine (at_prog HP.out (HN1.out _ (by assumption))).mono ?_); rintro e wv ⟨⟨x, rfl⟩, hv⟩; have K : Fr No w wv := Fr.trans (by assumption) hv; clear hv) | ((with_reducible refine (at_prog HP.out (HN2.out _ _ (by assumption))).mono ?_); rintro e wv ⟨rfl, hv⟩; have K : Fr No w wv := Fr.trans (by assumption) hv; clear hv)) | (go_at_call 12; ((with_reducible refine (at_prog HP.out (HV1.out _ (by assumption))).mono ?_); rintro e wv ⟨rfl, hv⟩; have K : Fr No w wv := Fr.trans (by assumption) hv; clear hv)) | (go_at_call 13; ((with_reducible refine (at_prog HP.out (HM.out _)).mono ?_); rintro e wv ⟨rfl, hw⟩; replace hw := hw.symm; subst hw)) | (go_at_call 14; ((with_reducible refine (at_prog HP.out (awake_any _)).mono ?_); rintro e wv ⟨rfl, hv⟩; have K : Fr No w wv := Fr.trans (by assumption) hv; clear hv)) | (refine law_make30P HP.out _ rfl (.tmp 69) (.tmp 69) rfl m rfl rfl hm1000 ?_; intro wv ho hv; have K : Fr No w wv := Fr.trans (by assumption) hv; clear hv) | fail)
            go_ret
            exact ⟨congrArg (fun b => Ending.returned (.bool b)) (show (!decide ((m : Int) ≤ 32)) = true by rw [decide_eq_false (by omega)]; rfl), by assumption⟩
      | false =>
        have HN1 := Lib.hid (HNN.out hvv)
        have HV1 := HV12
        rw [hvv] at HV1
        clear HNY HNN HV12 hvv
        by_cases hms : m ≤ 32
        · have HN2 := Lib.hid (HMY.out hms)
          have p9 : (m : Int) ≤ 32 := by omega
          clear HMY HMN hms
          rcases hx with q1 | ⟨q1, q2⟩
          · go_wp2_with (first | (go_at_call 11; first | ((with_reducible refine (at_prog HP.out (HN1.out _ (by assumption))).mono ?_); rintro e wv ⟨rfl, hv⟩; have K : Fr No w wv := Fr.trans (by assumption) hv; clear hv) | ((with_reducible refine (at_prog HP.out (HN2.out _ _ (by assumption))).mono ?_); rintro e wv ⟨⟨x2, rfl⟩, hv⟩; have K : Fr No w wv := Fr.trans (by assumption) hv; clear hv)) | (go_at_call 12; ((with_reducible refine (at_prog HP.out (HV1.out _ (by assumption))).mono ?_); rintro e wv ⟨rfl, hv⟩; have K : Fr No w wv := Fr.trans (by assumption) hv; clear hv)) | (go_at_call 13; ((with_reducible refine (at_prog HP.out (HM.out _)).mono ?_); rintro e wv ⟨rfl, hw⟩; replace hw := hw.symm; subst hw)) | (go_at_call 14; ((with_reducible refine (at_prog HP.out (awake_any _)).mono ?_); rintro e wv ⟨rfl, hv⟩; have K : Fr No w wv := Fr.trans (by assumption) hv; clear hv)) | (refine law_make30P HP.out _ rfl (.tmp 69) (.tmp 69) rfl m rfl rfl hm1000 ?_; intro wv ho hv; have K : Fr No w wv := Fr.trans (by assumption) hv; clear hv) | fail)
            go_ret
            exact ⟨rfl, by assumption⟩
          · go_wp2_with (first | (go_at_call 11; first | ((with_reducible refine (at_prog HP.out (HN1.out _ (by assumption))).mono ?_); rintro e wv ⟨rfl, hv⟩; have K : Fr No w wv := Fr.trans (by assumption) hv; clear hv) | ((with_reducible refine (at_prog HP.out (HN2.out _ _ (by assumption))).mono ?_); rintro e wv ⟨⟨x2, rfl⟩, hv⟩; have K : Fr No w wv := Fr.trans (by assumption) hv; clear hv)) | (go_at_call 12; ((with_reducible refine (at_prog HP.out (HV1.out _ (by assumption))).mono ?_); rintro e wv ⟨rfl, hv⟩; have K : Fr No w wv := Fr.trans (by assumption) hv; clear hv)) | (go_at_call 13; ((with_reducible refine (at_prog HP.out (HM.out _)).mono ?_); rintro e wv ⟨rfl, hw⟩; replace hw := hw.symm; subst hw)) | (go_at_call 14; ((with_reducible refine (at_prog HP.out (awake_any _)).mono ?_); rintro e wv ⟨rfl, hv⟩; have K : Fr No w wv := Fr.trans (by assumption) hv; clear hv)) | (refine law_make30P HP.out _ rfl (.tmp 69) (.tmp 69) rfl m rfl rfl hm1000 ?_; intro wv ho hv; have K : Fr No w wv := Fr.trans (by assumption) hv; clear hv) | fail)
            go_ret
            exact ⟨rfl, by assumption⟩
        · have HN2 := Lib.hid (HMN.out hms)
          have p9 : ¬ (m : Int) ≤ 32 := by omega
          clear HMY HMN hms
          rcases hx with q1 | ⟨q1, q2⟩
          · go_wp2_with (first | (go_at_call 11; first | ((with_reducible refine (at_prog HP.out (HN1.out _ (by assumption))).mono ?_); rintro e wv ⟨rfl, hv⟩; have K : Fr No w wv := Fr.trans (by assumption) hv; clear hv) | ((with_reducible refine (at_prog HP.out (HN2.out _ _ (by assumption))).mono ?_); rintro e wv ⟨rfl, hv⟩; have K : Fr No w wv := Fr.trans (by assumption) hv; clear hv)) | (go_at_call 12; ((with_reducible refine (at_prog HP.out (HV1.out _ (by assumption))).mono ?_); rintro e wv ⟨rfl, hv⟩; have K : Fr No w wv := Fr.trans (by assumption) hv; clear hv)) | (go_at_call 13; ((with_reducible refine (at_prog HP.out (HM.out _)).mono ?_); rintro e wv ⟨rfl, hw⟩; replace hw := hw.symm; subst hw)) | (go_at_call 14; ((with_reducible refine (at_prog HP.out (awake_any _)).mono ?_); rintro e wv ⟨rfl, hv⟩; have K : Fr No w wv := Fr.trans (by assumption) hv; clear hv)) | (refine law_make30P HP.out _ rfl (.tmp 69) (.tmp 69) rfl m rfl rfl hm1000 ?_; intro wv ho hv; have K : Fr No w wv := Fr.trans (by assumption) hv; clear hv) | fail)
            go_ret
            exact ⟨congrArg (fun b => Ending.returned (.bool b)) (show (!decide ((m : Int) ≤ 32)) = true by rw [decide_eq_false (by omega)]; rfl), by assumption⟩
          · go_wp2_with (first | (go_at_call 11; first | ((with_reducible refine (at_prog HP.out (HN1.out _ (by assumption))).mono ?_); rintro e wv ⟨rfl, hv⟩; have K : Fr No w wv := Fr.trans (by assumption) hv; clear hv) | ((with_reducible refine (at_prog HP.out (HN2.out _ _ (by assumption))).mono ?_); rintro e wv ⟨rfl, hv⟩; have K : Fr No w wv := Fr.trans (by assumption) hv; clear hv)) | (go_at_call 12; ((with_reducible refine (at_prog HP.out (HV1.out _ (by assumption))).mono ?_); rintro e wv ⟨rfl, hv⟩; have K : Fr No w wv := Fr.trans (by assumption) hv; clear hv)) | (go_at_call 13; ((with_reducible refine (at_prog HP.out (HM.out _)).mono ?_); rintro e wv ⟨rfl, hw⟩; replace hw := hw.symm; subst hw)) | (go_at_call 14; ((with_reducible refine (at_prog HP.out (awake_any _)).mono ?_); rintro e wv ⟨rfl, hv⟩; have K : Fr No w wv := Fr.trans (by assumption) hv; clear hv)) | (refine law_make30P HP.out _ rfl (.tmp 69) (.tmp 69) rfl m rfl rfl hm1000 ?_; intro wv ho hv; have K : Fr No w wv := Fr.trans (by assumption) hv; clear hv) | fail)
            go_ret
            exact ⟨congrArg (fun b => Ending.returned (.bool b)) (show (!decide ((m : Int) ≤ 32)) = true by rw [decide_eq_false (by omega)]; rfl), by assumption⟩
end Go.Proofs.Ytnadendhboiliaa
