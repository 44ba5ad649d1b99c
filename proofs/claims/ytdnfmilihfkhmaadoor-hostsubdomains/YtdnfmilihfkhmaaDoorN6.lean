/-
  CONTRACT of package host's ParsePort, over this seat's translation: what the call returns.
  Conditions: the string is shorter than 2 to the 31.
-/
import Derived.Test.YtdnfmilihfkhmaaDoorN2
import Derived.Test.YtdnfmilihfkhmaaDoorR3
import Derived.Test.YtdnfmilihfkhmaaDoorP3
namespace Go.Proofs.YtdnfmilihfkhmaaDoor
open Go.ChangeShapes Go.WideShapes Go.ChangeAt Go.RowKit
set_option linter.unusedVariables false

/-- A port and whether there is one. -/
def ansP (o : Option Nat) : Value := .tuple #[.int .i64 (portN o : Nat), .bool o.isSome]

set_option maxHeartbeats 4000000 in
set_option maxRecDepth 100000 in
theorem pport_any (l : List UInt8) (hl : l.length < 4611686018427387904) (w : World) : Calls Tryd.prog 35 #[.string (bs l)] w fun e w' => e = .returned (ansP (portV l)) ∧ w' = w := by
  cases l with
  | nil =>
    have HV : Hid (portV [] = none) := by show _ = _; rw [portV, if_pos (.inl rfl)]
    have hb : bs [] = ⟨#[]⟩ := rfl
    rw [hb]
    go_enter Tryd.func35, Tryd.ntmps35
    go_wp2_with fail
    go_ret2
    exact ⟨by rw [HV.out]; rfl, rfl⟩
  | cons a r =>
    have HIX : Hid (∀ (i : Nat) (x : UInt8) (w : World), (a :: r)[i]? = some x → Sem.run Tryd.prog (Instr.index 9 (.string (bs (a :: r))) (.int .i64 i)) w = .ok (.int .u8 (x.toNat : Int)) w) := fun i x w h => bs_index h w
    have hsz : (bs (a :: r)).size = (a :: r).length := rfl
    have hne : (bs (a :: r)).toList.isEmpty = false := by rw [bs_toList]; rfl
    have hx0 : ∀ w, Sem.run Tryd.prog (Instr.index 9 (.string (bs (a :: r))) (.int .i64 0)) w = .ok (.int .u8 (a.toNat : Int)) w := fun w => HIX.out 0 a w rfl
    have HP : Hid (portV (a :: r) = if a = 48 then none else limGo 65535 0 (a :: r)) := by
      show _ = _
      rw [portV]
      by_cases h : a = 48
      · rw [if_pos (.inr (by rw [h]; rfl)), if_pos h]
      · rw [if_neg (by rintro (e | e); cases e; cases e; exact h rfl), if_neg h]
    generalize a :: r = l at HIX hsz hne hx0 HP hl ⊢
    generalize hln : l.length = ln at hsz hl
    have HLN := Lib.hid hln
    generalize bs l = s at HIX hsz hne hx0 ⊢
    clear hln
    by_cases ha : a = 48
    · have pa : (a.toNat : Int) = 48 := by rw [ha]; rfl
      have HV : Hid (portV l = none) := by show _ = _; rw [HP.out, if_pos ha]
      rw [pa] at hx0
      clear ha pa
      go_enter Tryd.func35, Tryd.ntmps35
      go_wp2_with fail
      go_ret2
      exact ⟨by rw [HV.out]; rfl, rfl⟩
    · have pa : ¬ (a.toNat : Int) = 48 := fun e => ha (UInt8.toNat_inj.1 (by show a.toNat = 48; omega))
      have HV : Hid (portV l = limGo 65535 0 l) := by show _ = _; rw [HP.out, if_neg ha]
      generalize (a.toNat : Int) = ai at hx0 pa
      have pb : (ai == 48) = false := by simpa using pa
      clear ha
      go_enter Tryd.func35, Tryd.ntmps35
      go_wp2_with fail
      clear hx0 pa pb hne
      go_loopg [4, 15] (ln + 1) (fun g s4 s15 wr => ∃ (acc : Int) (i : Nat), s4 = .int .i64 acc ∧ s15 = .int .i64 i ∧ 0 ≤ acc ∧ acc ≤ 65535 ∧ i ≤ ln ∧ ln - i < g ∧ Hid (wr = w ∧ portV l = limGo 65535 acc.toNat (l.drop i)))
      case atStart => exact ⟨0, 0, rfl, by go_num, by omega, by omega, by omega, by omega, rfl, HV.out⟩
      case round =>
        obtain ⟨acc, i, rfl, rfl, ha0, ha1, hil, hig, HR⟩ := hrel
        obtain ⟨hw, hgo⟩ := HR.out
        have hw' := hw.symm
        subst hw'
        clear hw HR
        have q1 : (0 : Int) ≤ (i : Int) := by omega
        by_cases hi : i = ln
        · subst hi
          rw [List.drop_of_length_le (by rw [HLN.out]; exact Nat.le_refl _), limGo] at hgo
          have HE : Hid (ansP (portV l) = .tuple #[.int .i64 acc, .bool true]) := by
            show _ = _
            rw [hgo, ansP]
            show Value.tuple #[.int .i64 ((acc.toNat : Nat) : Int), .bool true] = _
            rw [show ((acc.toNat : Nat) : Int) = acc by omega]
          clear hgo
          go_wp2_with fail
          go_ret2
          exact ⟨by rw [HE.out]; rfl, rfl⟩
        · have q2 : (i : Int) < (ln : Int) := by omega
          obtain ⟨c, hc⟩ : ∃ c, l[i]? = some c := ⟨_, List.getElem?_eq_getElem (by rw [HLN.out]; omega)⟩
          have hix := fun w => HIX.out i c w hc
          have hstep := hgo.trans (limGo_step hc)
          have HDG := Lib.hid (dig_any c w)
          clear hgo hc
          by_cases hd : 48 ≤ c.toNat ∧ c.toNat ≤ 57
          · have hdt : isDig c = true := by unfold isDig; rw [decide_eq_true hd.1, decide_eq_true hd.2]; rfl
            rw [hdt] at HDG
            rw [if_pos hd] at hstep
            obtain ⟨x, hx⟩ : ∃ x : Int, (c.toNat : Int) = x := ⟨_, rfl⟩
            rw [hx] at hix HDG
            have x0 : 48 ≤ x := by omega
            have x1 : x ≤ 57 := by omega
            have hn : 10 * acc.toNat + (c.toNat - 48) = (10 * acc + (x - 48)).toNat := by omega
            rw [hn] at hstep
            clear hdt hd hx hn
            by_cases hbig : 65535 < 10 * acc + (x - 48)
            · rw [if_pos (by omega)] at hstep
              have HE := Lib.hid hstep
              clear hstep
              go_wp2_with (first | (go_at_call 58; refine HDG.out.mono ?_; rintro e w3 ⟨rfl, hw3⟩; have hw3' := hw3.symm; subst hw3'; clear hw3))
              go_ret2
              exact ⟨by rw [HE.out]; rfl, rfl⟩
            · rw [if_neg (by omega)] at hstep
              have HE := Lib.hid hstep
              clear hstep
              go_wp2_with (first | (go_at_call 58; refine HDG.out.mono ?_; rintro e w3 ⟨rfl, hw3⟩; have hw3' := hw3.symm; subst hw3'; clear hw3))
              go_roundg (ln - i)
              case measure => exact hig
              case rel => exact ⟨10 * acc + (x - 48), i + 1, by go_num, by go_num, by omega, by omega, by omega, by omega, rfl, HE.out⟩
          · have hdt : isDig c = false := by
              unfold isDig
              rw [Bool.and_eq_false_iff]
              by_cases h1 : 48 ≤ c.toNat
              · exact .inr (decide_eq_false fun h2 => hd ⟨h1, h2⟩)
              · exact .inl (decide_eq_false h1)
            rw [hdt] at HDG
            rw [if_neg hd] at hstep
            have HE := Lib.hid hstep
            generalize (c.toNat : Int) = x at hix HDG
            clear hstep hdt hd
            go_wp2_with (first | (go_at_call 58; refine HDG.out.mono ?_; rintro e w3 ⟨rfl, hw3⟩; have hw3' := hw3.symm; subst hw3'; clear hw3))
            go_ret2
            exact ⟨by rw [HE.out]; rfl, rfl⟩
end Go.Proofs.YtdnfmilihfkhmaaDoor
