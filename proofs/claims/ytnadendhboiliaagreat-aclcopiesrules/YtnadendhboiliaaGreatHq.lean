/-
  CONTRACTS of the reference's LabelCount and IsSubdomain, over this seat's translation: what each call returns.
  Conditions: none.
  CONTRACT of the reference's ParseName, over this seat's translation: what the call returns.
  Conditions: the string is no longer than a string can be.
  What holds of names that are joined; IsSubdomain of strings of any length; no loop.
  Conditions: none.
-/
import Derived.Test.YtnadendhboiliaaGreatHp
namespace Go.Proofs.YtnadendhboiliaaGreat
open Go.ChangeShapes Go.WideShapes Go.ChangeAt Go.RowKit
set_option linter.unusedVariables false

theorem nameV_short {l : List UInt8} (h : nameV l = true) : l.length ≤ 253 := by
  unfold nameV at h
  simp at h
  exact h.1.1

set_option maxHeartbeats 2000000 in
set_option maxRecDepth 100000 in
theorem cnt_ref (l : List UInt8) (w : World) : Calls Tryz.prog 58 #[.string (bs l)] w fun e w' => e = .returned (.int .i64 (cntV l : Nat)) ∧ Fr No w w' := by
  have HN := Lib.hid (vname_ref l)
  cases hb : nameV l with
  | false =>
    have HV : Hid (cntV l = 0) := by show _ = _; rw [cntV, if_neg (by rw [hb]; simp)]
    rw [hb] at HN
    generalize bs l = s at HN ⊢
    clear hb
    go_enter Tryz.func58, Tryz.ntmps58
    go_wp2_with (first | (go_at_call 36; refine (HN.out _).mono ?_; rintro e w1 ⟨rfl, hf1⟩) | fail)
    go_ret
    exact ⟨by rw [HV.out]; rfl, hf1⟩
  | true =>
    have HV : Hid (cntV l = (splitc 46 l).length) := by show _ = _; rw [cntV, if_pos hb]
    have HS : Hid (∀ w, Calls Tryz.prog 43 #[.string (bs l), .int .u8 46] w fun e w' => ∃ a cap, e = .returned (.slice a (splitc 46 l).length cap) ∧ w'.ownsRow w.heap.size 9 1 (.slice a (splitc 46 l).length cap) (splitc 46 l).length (strs ((splitc 46 l).map bs)) ∧ Fr No w w') := fun w => split_ref l 46 (by have := nameV_short hb; omega) w
    rw [hb] at HN
    rw [HV.out]
    generalize (splitc 46 l).length = n at HS ⊢
    generalize bs l = s at HN HS ⊢
    clear hb HV
    go_enter Tryz.func58, Tryz.ntmps58
    go_wp2_with (first | (go_at_call 36; refine (HN.out _).mono ?_; rintro e w1 ⟨rfl, hf1⟩) | (go_at_call 43; refine (HS.out _).mono ?_; rintro e w2 ⟨a, cap, rfl, -, hf2⟩) | fail)
    go_ret
    exact ⟨rfl, hf1.trans hf2⟩

theorem sufV_step {a b : List UInt8} {d : Nat} {c : UInt8} (hd : a.length = b.length + (d + 1)) (hc : a[d]? = some c) : sufV a (46 :: b) = (decide (a.drop (d + 1) = b) && decide (c = 46)) := by
  unfold sufV
  rw [decide_eq_true (by rw [List.length_cons]; omega), Bool.true_and, show a.length - (46 :: b).length = d by rw [List.length_cons]; omega]
  obtain ⟨h1, h2⟩ := List.getElem?_eq_some_iff.1 hc
  rw [List.drop_eq_getElem_cons h1, h2, Bool.eq_iff_iff]
  simp only [Bool.and_eq_true, decide_eq_true_eq, List.cons.injEq]
  exact ⟨fun h => ⟨h.2, h.1⟩, fun h => ⟨h.2, h.1⟩⟩
theorem sufV_none {a b : List UInt8} (hd : a.length ≤ b.length) : sufV a (46 :: b) = false := by
  unfold sufV
  rw [decide_eq_false (by rw [List.length_cons]; omega)]
  rfl

set_option maxHeartbeats 4000000 in
set_option maxRecDepth 100000 in
theorem sub_ref (a b : List UInt8) (w : World) : Calls Tryz.prog 57 #[.string (bs a), .string (bs b)] w fun e w' => e = .returned (.bool (subV a b)) ∧ Fr No w w' := by
  have HN1 := Lib.hid (vname_ref a)
  have HN2 := Lib.hid (vname_ref b)
  have hV : subV a b = (nameV a && nameV b && (decide (a = b) || sufV a (46 :: b))) := rfl
  cases hb1 : nameV a with
  | false =>
    have HV : Hid (subV a b = false) := by show _ = _; rw [hV, hb1]; rfl
    rw [hb1] at HN1
    generalize bs a = x at HN1 ⊢
    generalize bs b = y at HN2 ⊢
    clear hb1 hV
    go_enter Tryz.func57, Tryz.ntmps57
    go_wp2_with (first | (go_at_call 36; with_reducible refine (HN1.out _).mono ?_; rintro e w1 ⟨rfl, hf1⟩) | fail)
    go_ret
    exact ⟨by rw [HV.out]; rfl, hf1⟩
  | true =>
    cases hb2 : nameV b with
    | false =>
      have HV : Hid (subV a b = false) := by show _ = _; rw [hV, hb1, hb2]; rfl
      rw [hb1] at HN1
      rw [hb2] at HN2
      generalize bs a = x at HN1 ⊢
      generalize bs b = y at HN2 ⊢
      clear hb1 hb2 hV
      go_enter Tryz.func57, Tryz.ntmps57
      go_wp2_with (first | (go_at_call 36; with_reducible refine (HN1.out w).mono ?_; rintro e w1 ⟨rfl, hf1⟩) | (go_at_call 36; with_reducible refine (HN2.out w1).mono ?_; rintro e w2 ⟨rfl, hf2⟩) | fail)
      go_ret
      exact ⟨by rw [HV.out]; rfl, hf1.trans hf2⟩
    | true =>
      have hV2 : subV a b = (decide (a = b) || sufV a (46 :: b)) := by rw [hV, hb1, hb2]; rfl
      have hla := nameV_short hb1
      have hlb := nameV_short hb2
      rw [hb1] at HN1
      rw [hb2] at HN2
      have hs1 : (bs a).size = a.length := rfl
      have hs2 : (bs b).size = b.length := rfl
      have heq := bs_eq a b
      by_cases hab : a = b
      · have HV : Hid (subV a b = true) := by show _ = _; rw [hV2, decide_eq_true hab]; rfl
        rw [decide_eq_true hab] at heq
        generalize a.length = la at hs1 hla
        generalize b.length = lb at hs2 hlb
        generalize bs a = x at HN1 hs1 heq ⊢
        generalize bs b = y at HN2 hs2 heq ⊢
        clear hb1 hb2 hV hV2 hab
        go_enter Tryz.func57, Tryz.ntmps57
        go_wp2_with (first | (go_at_call 36; with_reducible refine (HN1.out w).mono ?_; rintro e w1 ⟨rfl, hf1⟩) | (go_at_call 36; with_reducible refine (HN2.out w1).mono ?_; rintro e w2 ⟨rfl, hf2⟩) | fail)
        go_ret
        exact ⟨by rw [HV.out]; rfl, hf1.trans hf2⟩
      · rw [decide_eq_false hab] at heq hV2
        by_cases hle : a.length ≤ b.length
        · have HV : Hid (subV a b = false) := by show _ = _; rw [hV2, sufV_none hle]; rfl
          have p1 : ¬ (0 : Int) < (a.length : Int) - (b.length : Int) := by omega
          generalize a.length = la at hs1 hla p1
          generalize b.length = lb at hs2 hlb p1
          generalize bs a = x at HN1 hs1 heq ⊢
          generalize bs b = y at HN2 hs2 heq ⊢
          clear hb1 hb2 hV hV2 hab hle
          go_enter Tryz.func57, Tryz.ntmps57
          go_wp2_with (first | (go_at_call 36; with_reducible refine (HN1.out w).mono ?_; rintro e w1 ⟨rfl, hf1⟩) | (go_at_call 36; with_reducible refine (HN2.out w1).mono ?_; rintro e w2 ⟨rfl, hf2⟩) | fail)
          go_ret
          exact ⟨by rw [HV.out]; rfl, hf1.trans hf2⟩
        · obtain ⟨d, hd⟩ : ∃ d, a.length = b.length + (d + 1) := ⟨a.length - b.length - 1, by omega⟩
          obtain ⟨c, hc⟩ : ∃ c, a[d]? = some c := ⟨_, List.getElem?_eq_getElem (by omega)⟩
          have HV : Hid (subV a b = (decide (a.drop (d + 1) = b) && decide (c = 46))) := by show _ = _; rw [hV2, sufV_step hd hc]; rfl
          have hix : ∀ w, Sem.run Tryz.prog (Instr.index 9 (.string (bs a)) (.int .i64 d)) w = .ok (.int .u8 (c.toNat : Int)) w := fun w => bs_index hc w
          have hex : (bs a).extract (d + 1) (b.length + (d + 1)) = bs (a.drop (d + 1)) := by rw [bs_extract, List.take_of_length_le]; rw [List.length_drop]; omega
          have heq2 := bs_eq (a.drop (d + 1)) b
          have hc46 : decide (c = 46) = decide ((c.toNat : Int) = 46) := by
            rw [Bool.eq_iff_iff]
            simp only [decide_eq_true_eq]
            exact ⟨fun e => by rw [e]; rfl, fun e => UInt8.toNat_inj.1 (by show c.toNat = 46; omega)⟩
          rw [hc46] at HV
          rw [hd] at hs1 hla
          generalize (c.toNat : Int) = ci at hix HV
          generalize decide (a.drop (d + 1) = b) = b5 at heq2 HV
          generalize bs (a.drop (d + 1)) = u at hex heq2
          generalize b.length = lb at hs1 hs2 hlb hla hex hd
          generalize bs a = x at HN1 hs1 heq hix hex ⊢
          generalize bs b = y at HN2 hs2 heq heq2 ⊢
          clear hb1 hb2 hV hV2 hab hle hc hd hc46
          have q1 : ((lb : Int) + ((d : Int) + 1)) - (lb : Int) = (d : Int) + 1 := by omega
          have q2 : (0 : Int) < (d : Int) + 1 := by omega
          have q3 : ((d : Int) + 1).toNat = d + 1 := by omega
          have q4 : (d : Int) + 1 ≤ (lb : Int) + ((d : Int) + 1) := by omega
          have q5 : (0 : Int) ≤ (d : Int) + 1 := by omega
          have q6 : wrap64 ((d : Int) + 1) = (d : Int) + 1 := by unfold wrap64; omega
          cases b5
          · go_enter Tryz.func57, Tryz.ntmps57
            go_wp2_with (first | (go_at_call 36; with_reducible refine (HN1.out w).mono ?_; rintro e w1 ⟨rfl, hf1⟩) | (go_at_call 36; with_reducible refine (HN2.out w1).mono ?_; rintro e w2 ⟨rfl, hf2⟩) | fail)
            go_ret
            exact ⟨by rw [HV.out]; rfl, hf1.trans hf2⟩
          · by_cases hci : ci = 46
            · subst hci
              go_enter Tryz.func57, Tryz.ntmps57
              go_wp2_with (first | (go_at_call 36; with_reducible refine (HN1.out w).mono ?_; rintro e w1 ⟨rfl, hf1⟩) | (go_at_call 36; with_reducible refine (HN2.out w1).mono ?_; rintro e w2 ⟨rfl, hf2⟩) | fail)
              go_ret
              exact ⟨by rw [HV.out]; rfl, hf1.trans hf2⟩
            · rw [decide_eq_false hci] at HV
              have hcb : (ci == 46) = false := by simpa using hci
              go_enter Tryz.func57, Tryz.ntmps57
              go_wp2_with (first | (go_at_call 36; with_reducible refine (HN1.out w).mono ?_; rintro e w1 ⟨rfl, hf1⟩) | (go_at_call 36; with_reducible refine (HN2.out w1).mono ?_; rintro e w2 ⟨rfl, hf2⟩) | fail)
              go_ret
              exact ⟨by rw [HV.out]; rfl, hf1.trans hf2⟩
end Go.Proofs.YtnadendhboiliaaGreat
namespace Go.Proofs.YtnadendhboiliaaGreat
open Go.ChangeShapes Go.WideShapes Go.ChangeAt Go.RowKit
set_option linter.unusedVariables false

end Go.Proofs.YtnadendhboiliaaGreat
namespace Go.Proofs.YtnadendhboiliaaGreat
open Go.ChangeShapes Go.WideShapes Go.ChangeAt Go.RowKit
set_option linter.unusedVariables false

set_option maxHeartbeats 2000000 in
set_option maxRecDepth 100000 in
theorem sub_all (a b : List UInt8) (w : World) : Calls Tryz.prog 51 #[.string (bs a), .string (bs b)] w fun e w' => e = .returned (.bool (subV a b)) ∧ w' = w := by
  by_cases hs : a.length < 4611686018427387904 ∧ b.length < 4611686018427387904
  · exact sub_any a b hs.1 hs.2 w
  · have HN1 := Lib.hid (name_any a)
    have HN2 := Lib.hid (name_any b)
    have hor : nameV a = false ∨ (nameV a = true ∧ nameV b = false) := by
      cases h1 : nameV a with
      | false => exact .inl rfl
      | true =>
        cases h2 : nameV b with
        | false => exact .inr ⟨rfl, rfl⟩
        | true => have := nameV_short h1; have := nameV_short h2; exact absurd ⟨by omega, by omega⟩ hs
    rcases hor with h1 | ⟨h1, h2⟩
    · have HV : Hid (subV a b = false) := by show _ = _; unfold subV; rw [h1]; rfl
      rw [h1] at HN1
      generalize bs a = x at HN1 ⊢
      generalize bs b = y at HN2 ⊢
      clear h1 hs
      go_enter Tryz.func51, Tryz.ntmps51
      go_wp2_with (first | (go_at_call 72; with_reducible refine (HN1.out _).mono ?_; rintro e w3 ⟨rfl, rfl⟩) | fail)
      go_ret
      exact ⟨by rw [HV.out]; rfl, rfl⟩
    · have HV : Hid (subV a b = false) := by show _ = _; unfold subV; rw [h1, h2]; rfl
      rw [h1] at HN1
      rw [h2] at HN2
      generalize bs a = x at HN1 ⊢
      generalize bs b = y at HN2 ⊢
      clear h1 h2 hs
      go_enter Tryz.func51, Tryz.ntmps51
      go_wp2_with (first | (go_at_call 72; with_reducible refine (HN1.out _).mono ?_; rintro e w3 ⟨rfl, rfl⟩) | (go_at_call 72; with_reducible refine (HN2.out _).mono ?_; rintro e w3 ⟨rfl, rfl⟩) | fail)
      go_ret
      exact ⟨by rw [HV.out]; rfl, rfl⟩
end Go.Proofs.YtnadendhboiliaaGreat
