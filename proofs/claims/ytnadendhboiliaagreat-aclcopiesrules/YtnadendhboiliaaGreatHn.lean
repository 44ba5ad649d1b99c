/-
  CONTRACTS of package host's isDigit, isLowerLetter, allDigits, isLabel and isName, over this seat's translation: what each call returns.
  Conditions: none.
  CONTRACT of package host's isName, over this seat's translation: what the call returns.
  Conditions: none.
-/
import Derived.Test.YtnadendhboiliaaGreatR2
import Derived.Test.YtnadendhboiliaaGreatN2
namespace Go.Proofs.YtnadendhboiliaaGreat
open Go.ChangeShapes Go.WideShapes Go.ChangeAt Go.RowKit
set_option linter.unusedVariables false

set_option maxHeartbeats 1000000 in
set_option maxRecDepth 100000 in
theorem dig_any (c : UInt8) (w : World) : Calls Tryz.prog 93 #[.int .u8 (c.toNat : Int)] w fun e w' => e = .returned (.bool (isDig c)) ∧ w' = w := by
  have hd : isDig c = (decide ((48 : Int) ≤ (c.toNat : Int)) && decide ((c.toNat : Int) ≤ 57)) := by
    unfold isDig
    rw [Bool.eq_iff_iff]; simp; omega
  rw [hd]
  generalize (c.toNat : Int) = x
  by_cases h : 48 ≤ x
  · rw [decide_eq_true h]
    go_enter Tryz.func93, Tryz.ntmps93
    go_wp2_with fail
    go_ret
    exact ⟨by simp, rfl⟩
  · rw [decide_eq_false h]
    go_enter Tryz.func93, Tryz.ntmps93
    go_wp2_with fail
    go_ret
    exact ⟨rfl, rfl⟩
set_option maxHeartbeats 1000000 in
set_option maxRecDepth 100000 in
theorem low_any (c : UInt8) (w : World) : Calls Tryz.prog 94 #[.int .u8 (c.toNat : Int)] w fun e w' => e = .returned (.bool (isLow c)) ∧ w' = w := by
  have hd : isLow c = (decide ((97 : Int) ≤ (c.toNat : Int)) && decide ((c.toNat : Int) ≤ 122)) := by
    unfold isLow
    rw [Bool.eq_iff_iff]; simp; omega
  rw [hd]
  generalize (c.toNat : Int) = x
  by_cases h : 97 ≤ x
  · rw [decide_eq_true h]
    go_enter Tryz.func94, Tryz.ntmps94
    go_wp2_with fail
    go_ret
    exact ⟨by simp, rfl⟩
  · rw [decide_eq_false h]
    go_enter Tryz.func94, Tryz.ntmps94
    go_wp2_with fail
    go_ret
    exact ⟨rfl, rfl⟩

set_option maxHeartbeats 2000000 in
set_option maxRecDepth 100000 in
theorem digits_any (l : List UInt8) (w : World) (hl : l.length < 4611686018427387904) : Calls Tryz.prog 85 #[.string (bs l)] w fun e w' => e = .returned (.bool (l.all isDig)) ∧ w' = w := by
  have hsz : (bs l).size = l.length := rfl
  have HIX : Hid (∀ (i : Nat) (x : UInt8) (w : World), l[i]? = some x → Sem.run Tryz.prog (Instr.index 9 (.string (bs l)) (.int .i64 i)) w = .ok (.int .u8 (x.toNat : Int)) w) := fun i x w h => bs_index h w
  generalize hln : l.length = ln at hsz hl
  have HLN := Lib.hid hln
  generalize bs l = s at hsz HIX ⊢
  clear hln
  go_enter Tryz.func85, Tryz.ntmps85
  go_wp2_with fail
  go_loopg [6] (ln + 1) (fun g s6 wr => ∃ i : Nat, s6 = .int .i64 i ∧ i ≤ ln ∧ ln - i < g ∧ Hid (wr = w ∧ ∀ (j : Nat) (c : UInt8), j < i → l[j]? = some c → isDig c = true))
  case atStart => exact ⟨0, by go_num, by omega, by omega, rfl, fun j c hj => by omega⟩
  case round =>
    obtain ⟨i, rfl, hil, hig, HR⟩ := hrel
    obtain ⟨hw, hall⟩ := HR.out
    have hw' := hw.symm
    subst hw'
    clear hw HR
    have q1 : (0 : Int) ≤ (i : Int) := by omega
    by_cases hi : i = ln
    · subst hi
      have HA : Hid (l.all isDig = true) := all_yes fun j c hj hc => hall j c (by rw [HLN.out] at hj; exact hj) hc
      clear hall
      go_wp2_with fail
      go_ret
      exact ⟨by rw [HA.out]; rfl, rfl⟩
    · have q2 : (i : Int) < (ln : Int) := by omega
      obtain ⟨c, hc⟩ : ∃ c, l[i]? = some c := ⟨_, List.getElem?_eq_getElem (by rw [HLN.out]; omega)⟩
      have hix := HIX.out i c w hc
      have HH := Lib.hid (And.intro hall hc)
      clear hall hc
      go_wp2_with fail
      refine (dig_any c w).mono ?_
      rintro e w3 ⟨rfl, hw3⟩
      have hw3' := hw3.symm
      subst hw3'
      clear hw3
      cases hd : isDig c with
      | true =>
        have HN : Hid (∀ (j : Nat) (c : UInt8), j < i + 1 → l[j]? = some c → isDig c = true) := fun j c' hj hc' => by
          by_cases hji : j = i
          · subst hji; rw [HH.out.2] at hc'; cases hc'; exact hd
          · exact HH.out.1 j c' (by omega) hc'
        clear hd
        go_wp2_with fail
        go_roundg (ln - i)
        case measure => exact hig
        case rel => exact ⟨i + 1, by go_num, by omega, by omega, rfl, HN.out⟩
      | false =>
        have HN : Hid (l.all isDig = false) := all_no HH.out.2 hd
        clear hd
        go_wp2_with fail
        go_ret
        exact ⟨by rw [HN.out]; rfl, rfl⟩

set_option maxHeartbeats 4000000 in
set_option maxRecDepth 100000 in
theorem label_any (l : List UInt8) (w : World) : Calls Tryz.prog 84 #[.string (bs l)] w fun e w' => e = .returned (.bool (labV l)) ∧ w' = w := by
  have hsz : (bs l).size = l.length := rfl
  have HIX : Hid (∀ (i : Nat) (x : UInt8) (w : World), l[i]? = some x → Sem.run Tryz.prog (Instr.index 9 (.string (bs l)) (.int .i64 i)) w = .ok (.int .u8 (x.toNat : Int)) w) := fun i x w h => bs_index h w
  generalize hln : l.length = ln at hsz
  have HLN := Lib.hid hln
  generalize bs l = s at hsz HIX ⊢
  by_cases h1 : ln < 1
  · have HV : Hid (labV l = false) := by show _ = _; unfold labV; rw [decide_eq_false (by omega : ¬ 1 ≤ l.length)]; rfl
    have p1 : (ln : Int) < 1 := by omega
    clear hln h1
    go_enter Tryz.func84, Tryz.ntmps84
    go_wp2_with fail
    go_ret
    exact ⟨by rw [HV.out]; rfl, rfl⟩
  · have p1 : ¬ (ln : Int) < 1 := by omega
    by_cases h63 : 63 < ln
    · have HV : Hid (labV l = false) := by show _ = _; unfold labV; rw [decide_eq_false (by omega : ¬ l.length ≤ 63)]; simp
      have p2 : (63 : Int) < (ln : Int) := by omega
      clear hln h1 h63
      go_enter Tryz.func84, Tryz.ntmps84
      go_wp2_with fail
      go_ret
      exact ⟨by rw [HV.out]; rfl, rfl⟩
    · have p2 : ¬ (63 : Int) < (ln : Int) := by omega
      obtain ⟨a, ha⟩ : ∃ a, l[0]? = some a := ⟨_, List.getElem?_eq_getElem (by omega)⟩
      obtain ⟨z, hz⟩ : ∃ z, l[ln - 1]? = some z := ⟨_, List.getElem?_eq_getElem (by omega)⟩
      have hh : l.head? = some a := by rw [List.head?_eq_getElem?]; exact ha
      have hlst : l.getLast? = some z := by rw [List.getLast?_eq_getElem?, hln]; exact hz
      have hx0 : ∀ w, Sem.run Tryz.prog (Instr.index 9 (.string s) (.int .i64 0)) w = .ok (.int .u8 (a.toNat : Int)) w := fun w => HIX.out 0 a w ha
      have hc : ((ln - 1 : Nat) : Int) = (ln : Int) - 1 := by omega
      have hxz := fun w => HIX.out (ln - 1) z w hz
      rw [hc] at hxz
      have hlen : 1 ≤ l.length ∧ l.length ≤ 63 := by omega
      have hVV : labV l = (decide (a ≠ 45) && decide (z ≠ 45) && l.all isLab) := by
        unfold labV
        rw [decide_eq_true hlen.1, decide_eq_true hlen.2, hh, hlst]
        simp
      have HVV := Lib.hid hVV
      clear hc hh hlst ha hz hVV hlen
      by_cases ha45 : a = 45
      · have pa : (a.toNat : Int) = 45 := by rw [ha45]; rfl
        rw [pa] at hx0
        have HV : Hid (labV l = false) := by show _ = _; rw [HVV.out, decide_eq_false (by simpa using ha45)]; rfl
        clear hln h1 h63 ha45 pa
        go_enter Tryz.func84, Tryz.ntmps84
        go_wp2_with fail
        go_ret
        exact ⟨by rw [HV.out]; rfl, rfl⟩
      · have pa : ¬ (a.toNat : Int) = 45 := fun e => ha45 (UInt8.toNat_inj.1 (by show a.toNat = 45; omega))
        by_cases hz45 : z = 45
        · have pz : (z.toNat : Int) = 45 := by rw [hz45]; rfl
          rw [pz] at hxz
          have HV : Hid (labV l = false) := by show _ = _; rw [HVV.out, decide_eq_false (p := z ≠ 45) (by simpa using hz45)]; simp
          clear hln h1 h63 ha45 hz45 pz
          go_enter Tryz.func84, Tryz.ntmps84
          go_wp2_with fail
          go_ret
          exact ⟨by rw [HV.out]; rfl, rfl⟩
        · have pz : ¬ (z.toNat : Int) = 45 := fun e => hz45 (UInt8.toNat_inj.1 (by show z.toNat = 45; omega))
          have HV : Hid (labV l = l.all isLab) := by show _ = _; rw [HVV.out, decide_eq_true (p := a ≠ 45) ha45, decide_eq_true (p := z ≠ 45) hz45]; simp
          clear hln h1 h63 ha45 hz45
          generalize (a.toNat : Int) = ax at hx0 pa
          generalize (z.toNat : Int) = zx at hxz pz
          have pb : (ax == 45) = false := by simpa using pa
          have pc : (zx == 45) = false := by simpa using pz
          go_enter Tryz.func84, Tryz.ntmps84
          go_wp2_with fail
          clear hx0 hxz
          go_loopg [27] (ln + 1) (fun g s6 wr => ∃ i : Nat, s6 = .int .i64 i ∧ i ≤ ln ∧ ln - i < g ∧ Hid (wr = w ∧ ∀ (j : Nat) (c : UInt8), j < i → l[j]? = some c → isLab c = true))
          case atStart => exact ⟨0, by go_num, by omega, by omega, rfl, fun j c hj => by omega⟩
          case round =>
            obtain ⟨i, rfl, hil, hig, HR⟩ := hrel
            obtain ⟨hw, hall⟩ := HR.out
            have hw' := hw.symm
            subst hw'
            clear hw HR
            have q1 : (0 : Int) ≤ (i : Int) := by omega
            by_cases hi : i = ln
            · subst hi
              have HA : Hid (l.all isLab = true) := all_yes fun j c hj hc => hall j c (by rw [HLN.out] at hj; exact hj) hc
              clear hall
              go_wp2_with fail
              go_ret
              exact ⟨by rw [HV.out, HA.out]; rfl, rfl⟩
            · have q2 : (i : Int) < (ln : Int) := by omega
              obtain ⟨c, hc⟩ : ∃ c, l[i]? = some c := ⟨_, List.getElem?_eq_getElem (by rw [HLN.out]; omega)⟩
              have hix := HIX.out i c w hc
              have HN : Hid ((isLab c = true → ∀ (j : Nat) (c : UInt8), j < i + 1 → l[j]? = some c → isLab c = true) ∧ (isLab c = false → l.all isLab = false)) := by
                refine ⟨fun hd j c' hj hc' => ?_, fun hd => all_no hc hd⟩
                by_cases hji : j = i
                · subst hji; rw [hc] at hc'; cases hc'; exact hd
                · exact hall j c' (by omega) hc'
              clear hall hc
              have hlab : isLab c = (isDig c || isLow c || decide ((c.toNat : Int) = 45)) := by
                unfold isLab
                congr 1
                rw [Bool.eq_iff_iff]
                simp only [decide_eq_true_eq]
                exact ⟨fun e => by rw [e]; rfl, fun e => UInt8.toNat_inj.1 (by show c.toNat = 45; omega)⟩
              have HD := Lib.hid (And.intro (dig_any c w) (low_any c w))
              rw [hlab] at HN
              generalize (c.toNat : Int) = x at hix HN HD
              generalize isDig c = bd at HN HD
              generalize isLow c = bl at HN HD
              clear hlab
              have HD1 : Hid (∀ w' , w' = w → Calls Tryz.prog 93 #[.int .u8 x] w' fun e w'' => e = .returned (.bool bd) ∧ w'' = w) := fun w' hw => by rw [hw]; exact HD.out.1
              cases bd
              · cases bl
                · by_cases hx : x = 45
                  · subst hx
                    go_wp2_with (first | (go_at_call 93; refine HD.out.1.mono ?_; rintro e w3 ⟨rfl, rfl⟩) | (go_at_call 94; refine HD.out.2.mono ?_; rintro e w3 ⟨rfl, rfl⟩))
                    go_roundg (ln - i)
                    case measure => exact hig
                    case rel => exact ⟨i + 1, by go_num, by omega, by omega, rfl, HN.out.1 rfl⟩
                  · have HF := Lib.hid (HN.out.2 (by rw [decide_eq_false hx]; rfl))
                    go_wp2_with (first | (go_at_call 93; refine HD.out.1.mono ?_; rintro e w3 ⟨rfl, rfl⟩) | (go_at_call 94; refine HD.out.2.mono ?_; rintro e w3 ⟨rfl, rfl⟩))
                    go_ret
                    exact ⟨by rw [HV.out, HF.out]; rfl, rfl⟩
                · go_wp2_with (first | (go_at_call 93; refine HD.out.1.mono ?_; rintro e w3 ⟨rfl, rfl⟩) | (go_at_call 94; refine HD.out.2.mono ?_; rintro e w3 ⟨rfl, rfl⟩))
                  go_roundg (ln - i)
                  case measure => exact hig
                  case rel => exact ⟨i + 1, by go_num, by omega, by omega, rfl, HN.out.1 rfl⟩
              · go_wp2_with (first | (go_at_call 93; refine HD.out.1.mono ?_; rintro e w3 ⟨rfl, rfl⟩) | (go_at_call 94; refine HD.out.2.mono ?_; rintro e w3 ⟨rfl, rfl⟩))
                go_roundg (ln - i)
                case measure => exact hig
                case rel => exact ⟨i + 1, by go_num, by omega, by omega, rfl, HN.out.1 rfl⟩
end Go.Proofs.YtnadendhboiliaaGreat
namespace Go.Proofs.YtnadendhboiliaaGreat
open Go.ChangeShapes Go.WideShapes Go.ChangeAt Go.RowKit
set_option linter.unusedVariables false

set_option maxHeartbeats 4000000 in
set_option maxRecDepth 100000 in
theorem name_any (l : List UInt8) (w : World) : Calls Tryz.prog 72 #[.string (bs l)] w fun e w' => e = .returned (.bool (nameV l)) ∧ w' = w := by
  have hsz : (bs l).size = l.length := rfl
  by_cases hbig : 253 < l.length
  · have HV : Hid (nameV l = false) := by show _ = _; unfold nameV; rw [decide_eq_false (by omega : ¬ l.length ≤ 253)]; rfl
    have p1 : (253 : Int) < (l.length : Int) := by omega
    generalize l.length = ln at hsz p1
    generalize bs l = s at hsz ⊢
    clear hbig
    go_enter Tryz.func72, Tryz.ntmps72
    go_wp2_with fail
    go_ret
    exact ⟨by rw [HV.out]; rfl, rfl⟩
  · have hl : l.length ≤ 253 := by omega
    have p1 : ¬ (253 : Int) < (l.length : Int) := by omega
    have HLL := Lib.hid hl
    have HIX : Hid (∀ (i : Nat) (x : UInt8) (w : World), l[i]? = some x → Sem.run Tryz.prog (Instr.index 9 (.string (bs l)) (.int .i64 i)) w = .ok (.int .u8 (x.toNat : Int)) w) := fun i x w h => bs_index h w
    have HLB : Hid (∀ (a b : Nat) (w : World), Calls Tryz.prog 84 #[.string ((bs l).extract a b)] w fun e w' => e = .returned (.bool (labV ((l.drop a).take (b - a)))) ∧ w' = w) := fun a b w => by rw [bs_extract]; exact label_any _ w
    have HDG : Hid (∀ (a b : Nat) (w : World), Calls Tryz.prog 85 #[.string ((bs l).extract a b)] w fun e w' => e = .returned (.bool (((l.drop a).take (b - a)).all isDig)) ∧ w' = w) := fun a b w => by rw [bs_extract]; exact digits_any _ w (by rw [List.length_take, List.length_drop]; omega)
    generalize hln : l.length = ln at hsz p1 hl
    have HLN := Lib.hid hln
    generalize bs l = s at hsz HIX HLB HDG ⊢
    clear hln hbig
    go_enter Tryz.func72, Tryz.ntmps72
    go_wp2_with fail
    go_loopg [3, 11] (ln + 1) (fun g s3 s11 wr => ∃ f i : Nat, s3 = .int .i64 f ∧ s11 = .int .i64 i ∧ f ≤ i ∧ i ≤ ln ∧ ln - i < g ∧ Hid (wr = w ∧ ∃ done, splitc 46 l = done ++ splitc 46 (l.drop f) ∧ done.all labV = true ∧ (∀ j x, f ≤ j → j < i → l[j]? = some x → x ≠ 46)))
    case atStart => exact ⟨0, 0, by go_num, by go_num, by omega, by omega, by omega, rfl, [], rfl, rfl, fun j x h1 h2 => by omega⟩
    case round =>
      obtain ⟨f, i, rfl, rfl, hfi, hil, hig, HR⟩ := hrel
      obtain ⟨hw, done, h1, h2, h3⟩ := HR.out
      have hw' := hw.symm
      subst hw'
      clear hw HR
      have q1 : (0 : Int) ≤ (f : Int) := by omega
      have q2 : (f : Int) ≤ (i : Int) := by omega
      have q3 : (i : Int) ≤ (ln : Int) := by omega
      have HC1 := Lib.hid (HLB.out f i)
      have HC2 := Lib.hid (HDG.out f i)
      by_cases hi : i = ln
      · subst hi
        have HSP : Hid (nameV l = (labV ((l.drop f).take (i - f)) && !((l.drop f).take (i - f)).all isDig)) := by
          have h6 := split_end h1 (fun j x ha hb => h3 j x ha (by rw [HLN.out] at hb; exact hb))
          refine name_end (by have := HLL.out; exact this) ?_ h2
          rw [List.take_of_length_le (by rw [List.length_drop, HLN.out]; exact Nat.le_refl _)]
          exact h6
        clear h1 h2 h3
        generalize labV ((l.drop f).take (i - f)) = b1 at HC1 HSP
        generalize ((l.drop f).take (i - f)).all isDig = b2 at HC2 HSP
        have HG := Lib.hid (And.intro HC1.out HC2.out)
        clear HC1 HC2
        cases b1
        · go_wp2_with (first | (go_at_call 84; refine (HG.out.1 _).mono ?_; rintro e w3 ⟨rfl, rfl⟩) | (go_at_call 85; refine (HG.out.2 _).mono ?_; rintro e w3 ⟨rfl, rfl⟩))
          go_ret
          exact ⟨by rw [HSP.out]; rfl, rfl⟩
        · cases b2
          · go_wp2_with (first | (go_at_call 84; refine (HG.out.1 _).mono ?_; rintro e w3 ⟨rfl, rfl⟩) | (go_at_call 85; refine (HG.out.2 _).mono ?_; rintro e w3 ⟨rfl, rfl⟩))
            go_ret
            exact ⟨by rw [HSP.out]; rfl, rfl⟩
          · go_wp2_with (first | (go_at_call 84; refine (HG.out.1 _).mono ?_; rintro e w3 ⟨rfl, rfl⟩) | (go_at_call 85; refine (HG.out.2 _).mono ?_; rintro e w3 ⟨rfl, rfl⟩))
            go_ret
            exact ⟨by rw [HSP.out]; rfl, rfl⟩
      · obtain ⟨x, hx⟩ : ∃ x, l[i]? = some x := ⟨_, List.getElem?_eq_getElem (by rw [HLN.out]; omega)⟩
        have hix := fun w => HIX.out i x w hx
        have q4 : (i : Int) < (ln : Int) := by omega
        by_cases hxc : x = 46
        · have hxn : (x.toNat : Int) = 46 := by rw [hxc]; rfl
          rw [hxn] at hix
          subst hxc
          have HSP : Hid (splitc 46 l = (done ++ [(l.drop f).take (i - f)]) ++ splitc 46 (l.drop (i + 1))) := split_hit h1 hfi h3 hx
          have HD := Lib.hid h2
          clear h1 h2 h3 hx hxn
          cases hb : labV ((l.drop f).take (i - f)) with
          | false =>
            have HB : Hid (nameV l = false) := name_bad HSP.out hb
            rw [hb] at HC1
            clear hb
            go_wp2_with (first | (go_at_call 84; refine (HC1.out _).mono ?_; rintro e w3 ⟨rfl, rfl⟩))
            go_ret
            exact ⟨by rw [HB.out]; rfl, rfl⟩
          | true =>
            have HB : Hid ((done ++ [(l.drop f).take (i - f)]).all labV = true) := by show _ = _; rw [List.all_append, HD.out]; simp [hb]
            rw [hb] at HC1
            clear hb
            go_wp2_with (first | (go_at_call 84; refine (HC1.out _).mono ?_; rintro e w3 ⟨rfl, rfl⟩))
            go_roundg (ln - i)
            case measure => exact hig
            case rel => exact ⟨i + 1, i + 1, by go_num, by go_num, by omega, by omega, by omega, rfl, _, HSP.out, HB.out, fun j y h1 h2 => by omega⟩
        · have p2 : ¬ (x.toNat : Int) = 46 := fun e => hxc (UInt8.toNat_inj.1 (by show x.toNat = 46; omega))
          go_wp2_with fail
          go_roundg (ln - i)
          case measure => exact hig
          case rel =>
            refine ⟨f, i + 1, rfl, by go_num, by omega, by omega, by omega, rfl, done, h1, h2, ?_⟩
            intro j y hj1 hj2 hy
            by_cases hji : j = i
            · subst hji; rw [hx] at hy; cases hy; exact hxc
            · exact h3 j y hj1 (by omega) hy
end Go.Proofs.YtnadendhboiliaaGreat
