/-
  CONTRACT of package host's isName, over this seat's translation: what the call returns.
  Conditions: none.
-/
import Derived.Test.YtdnfmilihfkhmaaDoorN1
namespace Go.Proofs.YtdnfmilihfkhmaaDoor
open Go.ChangeShapes Go.WideShapes Go.ChangeAt Go.RowKit
set_option linter.unusedVariables false

theorem name_end {l x : List UInt8} {done : List (List UInt8)} (hl : l.length ≤ 253) (hs : splitc 46 l = done ++ [x]) (hd : done.all labV = true) : nameV l = (labV x && !x.all isDig) := by
  unfold nameV
  rw [decide_eq_true hl, hs, List.all_append, hd, List.getLastD_concat]
  simp
theorem name_bad {l x : List UInt8} {done r : List (List UInt8)} (hs : splitc 46 l = (done ++ [x]) ++ r) (hx : labV x = false) : nameV l = false := by
  unfold nameV
  rw [hs, List.all_append, List.all_append]
  simp [hx]

set_option maxHeartbeats 4000000 in
set_option maxRecDepth 100000 in
theorem name_any (l : List UInt8) (w : World) : Calls Tryd.prog 50 #[.string (bs l)] w fun e w' => e = .returned (.bool (nameV l)) ∧ w' = w := by
  have hsz : (bs l).size = l.length := rfl
  by_cases hbig : 253 < l.length
  · have HV : Hid (nameV l = false) := by show _ = _; unfold nameV; rw [decide_eq_false (by omega : ¬ l.length ≤ 253)]; rfl
    have p1 : (253 : Int) < (l.length : Int) := by omega
    generalize l.length = ln at hsz p1
    generalize bs l = s at hsz ⊢
    clear hbig
    go_enter Tryd.func50, Tryd.ntmps50
    go_wp2_with fail
    go_ret
    exact ⟨by rw [HV.out]; rfl, rfl⟩
  · have hl : l.length ≤ 253 := by omega
    have p1 : ¬ (253 : Int) < (l.length : Int) := by omega
    have HLL := Lib.hid hl
    have HIX : Hid (∀ (i : Nat) (x : UInt8) (w : World), l[i]? = some x → Sem.run Tryd.prog (Instr.index 9 (.string (bs l)) (.int .i64 i)) w = .ok (.int .u8 (x.toNat : Int)) w) := fun i x w h => bs_index h w
    have HLB : Hid (∀ (a b : Nat) (w : World), Calls Tryd.prog 73 #[.string ((bs l).extract a b)] w fun e w' => e = .returned (.bool (labV ((l.drop a).take (b - a)))) ∧ w' = w) := fun a b w => by rw [bs_extract]; exact label_any _ w
    have HDG : Hid (∀ (a b : Nat) (w : World), Calls Tryd.prog 74 #[.string ((bs l).extract a b)] w fun e w' => e = .returned (.bool (((l.drop a).take (b - a)).all isDig)) ∧ w' = w) := fun a b w => by rw [bs_extract]; exact digits_any _ w (by rw [List.length_take, List.length_drop]; omega)
    generalize hln : l.length = ln at hsz p1 hl
    have HLN := Lib.hid hln
    generalize bs l = s at hsz HIX HLB HDG ⊢
    clear hln hbig
    go_enter Tryd.func50, Tryd.ntmps50
    go_wp2_with fail
    go_loopg [3, 11] (ln + 1) (fun g s3 s11 wr => ∃ f i : Nat, s3 = .int .i64 f ∧ s11 = .int .i64 i ∧ f ≤ i ∧ i ≤ ln ∧ ln - i < g ∧ Hid (wr = w ∧ ∃ done, splitc 46 l = done ++ splitc 46 (l.drop f) ∧ done.all labV = true ∧ (∀ j x, f ≤ j → j < i → l[j]? = some x → x ≠ 46)))
    case atStart => exact ⟨0, 0, by go_num, by go_num, by omega, by omega, by omega, rfl, [], rfl, rfl, fun j x h1 h2 => by omega⟩
    case round =>
      obtain ⟨f, i, rfl, rfl, hfi, hil, hig, HR⟩ := hrel
      obtain ⟨hw, done, h1, h2, h3⟩ := HR.out
      have hw' := hw.symm
      subst hw'
      clear hw HR
      have q1 : (0 : Int) ≤ (f : Int) := by omega
      have q2 : (f : Int) ≤ (i : Int) := by omega
      have q3 : (i : Int) ≤ (ln : Int) := by omega
      have HC1 := Lib.hid (HLB.out f i)
      have HC2 := Lib.hid (HDG.out f i)
      by_cases hi : i = ln
      · subst hi
        have HSP : Hid (nameV l = (labV ((l.drop f).take (i - f)) && !((l.drop f).take (i - f)).all isDig)) := by
          have h6 := split_end h1 (fun j x ha hb => h3 j x ha (by rw [HLN.out] at hb; exact hb))
          refine name_end (by have := HLL.out; exact this) ?_ h2
          rw [List.take_of_length_le (by rw [List.length_drop, HLN.out]; exact Nat.le_refl _)]
          exact h6
        clear h1 h2 h3
        generalize labV ((l.drop f).take (i - f)) = b1 at HC1 HSP
        generalize ((l.drop f).take (i - f)).all isDig = b2 at HC2 HSP
        have HG := Lib.hid (And.intro HC1.out HC2.out)
        clear HC1 HC2
        cases b1
        · go_wp2_with (first | (go_at_call 73; refine (HG.out.1 _).mono ?_; rintro e w3 ⟨rfl, rfl⟩) | (go_at_call 74; refine (HG.out.2 _).mono ?_; rintro e w3 ⟨rfl, rfl⟩))
          go_ret
          exact ⟨by rw [HSP.out]; rfl, rfl⟩
        · cases b2
          · go_wp2_with (first | (go_at_call 73; refine (HG.out.1 _).mono ?_; rintro e w3 ⟨rfl, rfl⟩) | (go_at_call 74; refine (HG.out.2 _).mono ?_; rintro e w3 ⟨rfl, rfl⟩))
            go_ret
            exact ⟨by rw [HSP.out]; rfl, rfl⟩
          · go_wp2_with (first | (go_at_call 73; refine (HG.out.1 _).mono ?_; rintro e w3 ⟨rfl, rfl⟩) | (go_at_call 74; refine (HG.out.2 _).mono ?_; rintro e w3 ⟨rfl, rfl⟩))
            go_ret
            exact ⟨by rw [HSP.out]; rfl, rfl⟩
      · obtain ⟨x, hx⟩ : ∃ x, l[i]? = some x := ⟨_, List.getElem?_eq_getElem (by rw [HLN.out]; omega)⟩
        have hix := fun w => HIX.out i x w hx
        have q4 : (i : Int) < (ln : Int) := by omega
        by_cases hxc : x = 46
        · have hxn : (x.toNat : Int) = 46 := by rw [hxc]; rfl
          rw [hxn] at hix
          subst hxc
          have HSP : Hid (splitc 46 l = (done ++ [(l.drop f).take (i - f)]) ++ splitc 46 (l.drop (i + 1))) := split_hit h1 hfi h3 hx
          have HD := Lib.hid h2
          clear h1 h2 h3 hx hxn
          cases hb : labV ((l.drop f).take (i - f)) with
          | false =>
            have HB : Hid (nameV l = false) := name_bad HSP.out hb
            rw [hb] at HC1
            clear hb
            go_wp2_with (first | (go_at_call 73; refine (HC1.out _).mono ?_; rintro e w3 ⟨rfl, rfl⟩))
            go_ret
            exact ⟨by rw [HB.out]; rfl, rfl⟩
          | true =>
            have HB : Hid ((done ++ [(l.drop f).take (i - f)]).all labV = true) := by show _ = _; rw [List.all_append, HD.out]; simp [hb]
            rw [hb] at HC1
            clear hb
            go_wp2_with (first | (go_at_call 73; refine (HC1.out _).mono ?_; rintro e w3 ⟨rfl, rfl⟩))
            go_roundg (ln - i)
            case measure => exact hig
            case rel => exact ⟨i + 1, i + 1, by go_num, by go_num, by omega, by omega, by omega, rfl, _, HSP.out, HB.out, fun j y h1 h2 => by omega⟩
        · have p2 : ¬ (x.toNat : Int) = 46 := fun e => hxc (UInt8.toNat_inj.1 (by show x.toNat = 46; omega))
          go_wp2_with fail
          go_roundg (ln - i)
          case measure => exact hig
          case rel =>
            refine ⟨f, i + 1, rfl, by go_num, by omega, by omega, by omega, rfl, done, h1, h2, ?_⟩
            intro j y hj1 hj2 hy
            by_cases hji : j = i
            · subst hji; rw [hx] at hy; cases hy; exact hxc
            · exact h3 j y hj1 (by omega) hy
end Go.Proofs.YtdnfmilihfkhmaaDoor
