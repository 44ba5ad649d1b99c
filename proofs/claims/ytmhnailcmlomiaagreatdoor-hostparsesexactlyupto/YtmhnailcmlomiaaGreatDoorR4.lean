/-
  CONTRACTS of the reference's parseGroup, over this seat's translation: what the call returns.
  Conditions: none.
-/
import Derived.Test.YtmhnailcmlomiaaGreatDoorR2
import Derived.Test.YtmhnailcmlomiaaGreatDoorP3
namespace Go.Proofs.YtmhnailcmlomiaaGreatDoor
open Go.ChangeShapes Go.WideShapes Go.ChangeAt Go.RowKit
set_option linter.unusedVariables false

set_option maxHeartbeats 4000000 in
set_option maxRecDepth 100000 in
theorem pgrp_ref (l : List UInt8) (w : World) :
    Calls Tryz.prog 115 #[.string (bs l)] w fun e w' => e = .returned (.int .i64 (decI (hexV l))) ∧ w' = w := by
  have hsz : (bs l).size = l.length := rfl
  have hemp := bs_isEmpty l
  by_cases hl : l = []
  · subst hl
    have he : (bs []).toList.isEmpty = true := hemp
    generalize bs [] = s at hsz he ⊢
    clear hemp hsz
    go_enter Tryz.func115, Tryz.ntmps115
    go_wp2_with fail
    go_ret
    exact ⟨rfl, rfl⟩
  · have he : (bs l).toList.isEmpty = false := by rw [hemp]; cases l with
      | nil => exact absurd rfl hl
      | cons x r => rfl
    have HIX : Hid (∀ (i : Nat) (x : UInt8) (w : World), l[i]? = some x → Sem.run Tryz.prog (Instr.index 9 (.string (bs l)) (.int .i64 i)) w = .ok (.int .u8 (x.toNat : Int)) w) := fun i x w h => bs_index h w
    generalize bs l = s at hsz he HIX ⊢
    clear hemp
    by_cases h4 : 4 < l.length
    · have p1 : (4 : Int) < (l.length : Int) := by omega
      rw [show hexV l = none by rw [hexV, if_pos (.inr h4)]]
      clear h4 HIX hl
      go_enter Tryz.func115, Tryz.ntmps115
      go_wp2_with fail
      go_ret
      exact ⟨rfl, rfl⟩
    · have p1 : ¬ (4 : Int) < (l.length : Int) := by omega
      have HD : Hid (hexV l = hexGo 0 l) := by show _ = _; rw [hexV, if_neg (by rintro (h | h); exact hl h; exact h4 h)]
      obtain ⟨ln, hln⟩ : ∃ ln, l.length = ln := ⟨_, rfl⟩
      rw [hln] at hsz p1 h4
      have HLN := Lib.hid hln
      have hl4 : ln ≤ 4 := by omega
      clear hln h4 hl
      go_enter Tryz.func115, Tryz.ntmps115
      go_wp2_with fail
      go_loopg [3, 4] (ln + 1) (fun g s3 s4 wr => ∃ (i : Nat) (a : Int), s3 = .int .i64 a ∧ s4 = .int .i64 i ∧ i ≤ ln ∧ ln - i < g ∧ Hid (wr = w ∧ ∃ acc : Nat, a = acc ∧ acc < 16 ^ i ∧ hexGo 0 l = hexGo acc (l.drop i)))
      case atStart => exact ⟨0, 0, rfl, by go_num, by omega, by omega, rfl, 0, rfl, by decide, rfl⟩
      case round =>
        obtain ⟨i, a, rfl, rfl, hil, hig, HR⟩ := hrel
        obtain ⟨hw, acc, ha, hai, hgo⟩ := HR.out
        have hw' := hw.symm
        subst hw'
        clear hw HR
        by_cases hi : i = ln
        · subst hi
          rw [List.drop_of_length_le (by rw [HLN.out]; exact Nat.le_refl _)] at hgo
          have HV := Lib.hid (And.intro hgo ha)
          clear hgo hai ha
          go_wp2_with fail
          go_ret
          exact ⟨by rw [HD.out, HV.out.1]; simp [hexGo, decI, HV.out.2], rfl⟩
        · obtain ⟨c, hc⟩ : ∃ c, l[i]? = some c := ⟨_, List.getElem?_eq_getElem (by rw [HLN.out]; omega)⟩
          have hix := HIX.out i c w hc
          have hstep := hgo.trans (hexGo_step hc)
          have hb1 : 16 ^ i * 16 ≤ 65536 := pow16_le (by omega)
          have q1 : (0 : Int) ≤ (i : Int) := by omega
          have q2 : (i : Int) < (ln : Int) := by omega
          obtain ⟨x, hx⟩ : ∃ x : Int, ((c.toNat : Nat) : Int) = x := ⟨_, rfl⟩
          rw [hx] at hix
          have hc256 : c.toNat < 256 := c.toNat_lt
          have x0 : 0 ≤ x := by omega
          have x1 : x ≤ 255 := by omega
          have a0 : 0 ≤ a := by omega
          have a1 : a ≤ 4096 := by omega
          have hdef : hexDig c = if 48 ≤ c.toNat ∧ c.toNat ≤ 57 then some (c.toNat - 48) else if 97 ≤ c.toNat ∧ c.toNat ≤ 102 then some (c.toNat - 87) else if 65 ≤ c.toNat ∧ c.toNat ≤ 70 then some (c.toNat - 55) else none := rfl
          have SOME : Hid (∀ d : Nat, hexDig c = some d → d < 16 → hexGo 0 l = hexGo (acc * 16 + d) (l.drop (i + 1)) ∧ acc * 16 + d < 16 ^ (i + 1)) := fun d hd h16 => ⟨by rw [hstep, hd], by rw [Nat.pow_succ]; omega⟩
          have NONE : Hid (hexDig c = none → hexGo 0 l = none) := fun hd => by rw [hstep, hd]
          clear hstep hgo hai hb1 hc
          by_cases hd : 48 ≤ x ∧ x ≤ 57
          · obtain ⟨d1, d2⟩ := hd
            rw [if_pos (by omega)] at hdef
            have HN := Lib.hid (And.intro (SOME.out _ hdef (by omega)) (show ((acc * 16 + (c.toNat - 48) : Nat) : Int) = 16 * a + (x - 48) by omega))
            clear hdef hx ha hc256
            go_wp2_with fail
            go_roundg (ln - i)
            case measure => exact hig
            case rel => exact ⟨i + 1, 16 * a + (x - 48), by go_num, by go_num, by omega, by omega, rfl, _, HN.out.2.symm, HN.out.1.2, HN.out.1.1⟩
          · rw [if_neg (by omega)] at hdef
            by_cases he2 : 97 ≤ x ∧ x ≤ 102
            · obtain ⟨d1, d2⟩ := he2
              rw [if_pos (by omega)] at hdef
              have HN := Lib.hid (And.intro (SOME.out _ hdef (by omega)) (show ((acc * 16 + (c.toNat - 87) : Nat) : Int) = 16 * a + (x - 97) + 10 by omega))
              have d3 : 48 ≤ x := by omega
              have d4 : ¬ x ≤ 57 := by omega
              clear hdef hx ha hc256 hd
              go_wp2_with fail
              go_roundg (ln - i)
              case measure => exact hig
              case rel => exact ⟨i + 1, 16 * a + (x - 97) + 10, by go_num, by go_num, by omega, by omega, rfl, _, HN.out.2.symm, HN.out.1.2, HN.out.1.1⟩
            · rw [if_neg (by omega)] at hdef
              by_cases he3 : 65 ≤ x ∧ x ≤ 70
              · obtain ⟨d1, d2⟩ := he3
                rw [if_pos (by omega)] at hdef
                have HN := Lib.hid (And.intro (SOME.out _ hdef (by omega)) (show ((acc * 16 + (c.toNat - 55) : Nat) : Int) = 16 * a + (x - 65) + 10 by omega))
                have d3 : 48 ≤ x := by omega
                have d4 : ¬ x ≤ 57 := by omega
                have d5 : ¬ 97 ≤ x := by omega
                clear hdef hx ha hc256 hd he2
                go_wp2_with fail
                go_roundg (ln - i)
                case measure => exact hig
                case rel => exact ⟨i + 1, 16 * a + (x - 65) + 10, by go_num, by go_num, by omega, by omega, rfl, _, HN.out.2.symm, HN.out.1.2, HN.out.1.1⟩
              · rw [if_neg (by omega)] at hdef
                have HN := Lib.hid (NONE.out hdef)
                clear hdef hx ha hc256
                have hD : x < 48 ∨ (57 < x ∧ x < 65) ∨ (70 < x ∧ x < 97) ∨ 102 < x := by omega
                clear hd he2 he3
                rcases hD with h | ⟨h, h'⟩ | ⟨h, h'⟩ | h
                · have e1 : ¬ 48 ≤ x := by omega
                  have e2 : ¬ 97 ≤ x := by omega
                  have e3 : ¬ 65 ≤ x := by omega
                  go_wp2_with fail
                  go_ret
                  exact ⟨by rw [HD.out, HN.out]; rfl, rfl⟩
                · have e1 : 48 ≤ x := by omega
                  have e4 : ¬ x ≤ 57 := by omega
                  have e2 : ¬ 97 ≤ x := by omega
                  have e3 : ¬ 65 ≤ x := by omega
                  go_wp2_with fail
                  go_ret
                  exact ⟨by rw [HD.out, HN.out]; rfl, rfl⟩
                · have e1 : 48 ≤ x := by omega
                  have e4 : ¬ x ≤ 57 := by omega
                  have e2 : ¬ 97 ≤ x := by omega
                  have e3 : 65 ≤ x := by omega
                  have e5 : ¬ x ≤ 70 := by omega
                  go_wp2_with fail
                  go_ret
                  exact ⟨by rw [HD.out, HN.out]; rfl, rfl⟩
                · have e1 : 48 ≤ x := by omega
                  have e4 : ¬ x ≤ 57 := by omega
                  have e2 : 97 ≤ x := by omega
                  have e6 : ¬ x ≤ 102 := by omega
                  have e3 : 65 ≤ x := by omega
                  have e5 : ¬ x ≤ 70 := by omega
                  go_wp2_with fail
                  go_ret
                  exact ⟨by rw [HD.out, HN.out]; rfl, rfl⟩
end Go.Proofs.YtmhnailcmlomiaaGreatDoor
