/-
  CONTRACTS of the reference's ParseDecimal and ParsePort, over this seat's translation: what each call returns.
  Conditions: none.
-/
import Derived.Test.YtdnfmilihfkhmaaDoorR2
namespace Go.Proofs.YtdnfmilihfkhmaaDoor
open Go.ChangeShapes Go.WideShapes Go.ChangeAt Go.RowKit
set_option linter.unusedVariables false

/-- A number, or -1. -/
def decI : Option Nat → Int
  | none => -1
  | some n => n
theorem bs_isEmpty (l : List UInt8) : (bs l).toList.isEmpty = l.isEmpty := by
  have : (bs l).toList = l := by rw [ByteArray.toList_eq]; rfl
  rw [this]
theorem pow10_le {i : Nat} (h : i ≤ 5) : 10 ^ i * 10 ≤ 1000000 := by
  have : i = 0 ∨ i = 1 ∨ i = 2 ∨ i = 3 ∨ i = 4 ∨ i = 5 := by omega
  rcases this with rfl | rfl | rfl | rfl | rfl | rfl <;> decide

set_option maxHeartbeats 4000000 in
set_option maxRecDepth 100000 in
theorem pdec_ref (l : List UInt8) (most : Nat) (w : World) :
    Calls Tryd.prog 59 #[.string (bs l), .int .i64 most] w fun e w' => e = .returned (.int .i64 (decI (decR most l))) ∧ w' = w := by
  have hsz : (bs l).size = l.length := rfl
  have hemp := bs_isEmpty l
  cases hl : l with
  | nil =>
    rw [hl] at hemp hsz
    have he : (bs []).toList.isEmpty = true := hemp
    generalize bs [] = s at hsz he ⊢
    clear hemp hsz
    go_enter Tryd.func59, Tryd.ntmps59
    go_wp2_with fail
    go_ret
    exact ⟨rfl, rfl⟩
  | cons c0 r =>
    rw [← hl]
    have he : (bs l).toList.isEmpty = false := by rw [hemp, hl]; rfl
    have hx0 := bs_index (l := l) (i := 0) (c := c0) (by rw [hl]; rfl)
    have hx0' : ∀ w, Sem.run Tryd.prog (Instr.index 9 (.string (bs l)) (.int .i64 0)) w = .ok (.int .u8 (c0.toNat : Int)) w := hx0
    have HIX : Hid (∀ (i : Nat) (x : UInt8) (w : World), l[i]? = some x → Sem.run Tryd.prog (Instr.index 9 (.string (bs l)) (.int .i64 i)) w = .ok (.int .u8 (x.toNat : Int)) w) := fun i x w h => bs_index h w
    have HH : Hid (l.head? = some c0 ∧ l ≠ []) := by rw [hl]; exact ⟨rfl, by simp⟩
    generalize bs l = s at hsz he hx0 hx0' HIX ⊢
    clear hx0 hemp hl
    by_cases h6 : 6 < l.length
    · have p1 : (6 : Int) < (l.length : Int) := by omega
      rw [show decR most l = none by rw [decR, if_pos (.inr (.inl h6))]]
      clear h6 HIX HH hx0'
      go_enter Tryd.func59, Tryd.ntmps59
      go_wp2_with fail
      go_ret
      exact ⟨rfl, rfl⟩
    · have p1 : ¬ (6 : Int) < (l.length : Int) := by omega
      by_cases h0 : c0 = 48 ∧ 1 < l.length
      · obtain ⟨rfl, h1⟩ := h0
        have p2 : (1 : Int) < (l.length : Int) := by omega
        have hx1 : ∀ w, Sem.run Tryd.prog (Instr.index 9 (.string s) (.int .i64 0)) w = .ok (.int .u8 48) w := hx0'
        rw [show decR most l = none by rw [decR, if_pos (.inr (.inr ⟨HH.out.1, h1⟩))]]
        clear h6 HIX HH hx0' h1
        go_enter Tryd.func59, Tryd.ntmps59
        go_wp2_with fail
        go_ret
        exact ⟨rfl, rfl⟩
      · have HD : Hid (decR most l = match digGo 0 l with
            | some n => if n ≤ most then some n else none
            | none => none) := by
          show _ = _
          rw [decR, if_neg]
          · cases digGo 0 l <;> rfl
          · rintro (h | h | h)
            · exact HH.out.2 h
            · exact h6 h
            · exact h0 ⟨Option.some.inj (HH.out.1.symm.trans h.1), h.2⟩
        have h01 : (c0.toNat : Int) = 48 → ¬ (1 : Int) < (l.length : Int) := fun e h => h0 ⟨UInt8.toNat_inj.1 (by show c0.toNat = 48; omega), by omega⟩
        obtain ⟨ln, hln⟩ : ∃ ln, l.length = ln := ⟨_, rfl⟩
        rw [hln] at hsz p1 h01 h6
        have HLN := Lib.hid hln
        obtain ⟨x0, hx0e⟩ : ∃ x0 : Int, (c0.toNat : Int) = x0 := ⟨_, rfl⟩
        rw [hx0e] at hx0' h01
        clear h0 hln hx0e HH
        have hl6 : ln ≤ 6 := by omega
        have hcond : (x0 = 48 ∧ ¬ (1 : Int) < (ln : Int)) ∨ ¬ x0 = 48 := by
          by_cases e : x0 = 48
          · exact .inl ⟨e, h01 e⟩
          · exact .inr e
        clear h01 h6
        have key : ∀ (w : World), True := fun _ => trivial
        clear key
        rcases hcond with ⟨pc, pd⟩ | pc
        all_goals (
          go_enter Tryd.func59, Tryd.ntmps59
          go_wp2_with fail
          clear hx0'
          go_loopg [5, 6] (ln + 1) (fun g s5 s6 wr => ∃ (i : Nat) (a : Int), s5 = .int .i64 a ∧ s6 = .int .i64 i ∧ i ≤ ln ∧ ln - i < g ∧ Hid (wr = w ∧ ∃ acc : Nat, a = acc ∧ acc < 10 ^ i ∧ digGo 0 l = digGo acc (l.drop i)))
          case atStart => exact ⟨0, 0, rfl, by go_num, by omega, by omega, rfl, 0, rfl, by decide, rfl⟩
          case round =>
            obtain ⟨i, a, rfl, rfl, hil, hig, HR⟩ := hrel
            obtain ⟨hw, acc, ha, hai, hgo⟩ := HR.out
            have hw' := hw.symm
            subst hw'
            clear hw HR
            by_cases hi : i = ln
            · subst hi
              rw [List.drop_of_length_le (by rw [HLN.out]; exact Nat.le_refl _)] at hgo
              have HV := Lib.hid (And.intro hgo ha)
              clear hgo hai
              by_cases hm : acc ≤ most
              · have pm : ¬ (most : Int) < a := by omega
                clear ha
                go_wp2_with fail
                go_ret
                exact ⟨by rw [HD.out, HV.out.1]; simp [digGo, hm, decI, HV.out.2], rfl⟩
              · have pm : (most : Int) < a := by omega
                clear ha
                go_wp2_with fail
                go_ret
                exact ⟨by rw [HD.out, HV.out.1]; simp [digGo, hm, decI], rfl⟩
            · obtain ⟨c, hc⟩ : ∃ c, l[i]? = some c := ⟨_, List.getElem?_eq_getElem (by rw [HLN.out]; omega)⟩
              have hix := HIX.out i c w hc
              have hstep := hgo.trans (digGo_step hc)
              have hb1 : 10 ^ i * 10 ≤ 1000000 := pow10_le (by omega)
              have q1 : (0 : Int) ≤ (i : Int) := by omega
              have q2 : (i : Int) < (ln : Int) := by omega
              obtain ⟨x, hx⟩ : ∃ x : Int, ((c.toNat : Nat) : Int) = x := ⟨_, rfl⟩
              rw [hx] at hix
              have hc256 : c.toNat < 256 := c.toNat_lt
              have x0 : 0 ≤ x := by omega
              have x1 : x ≤ 255 := by omega
              have a0 : 0 ≤ a := by omega
              have a1 : a ≤ 100000 := by omega
              have HS1 := Lib.hid (And.intro hstep (And.intro hai (And.intro hx ha)))
              by_cases hd : 48 ≤ x ∧ x ≤ 57
              · obtain ⟨d1, d2⟩ := hd
                have d3 : ¬ x < 48 := by omega
                have d4 : ¬ 57 < x := by omega
                have HN : Hid (digGo 0 l = digGo (10 * acc + (c.toNat - 48)) (l.drop (i + 1)) ∧ 10 * acc + (c.toNat - 48) < 10 ^ (i + 1) ∧ ((10 * acc + (c.toNat - 48) : Nat) : Int) = 10 * a + (x - 48)) := by
                  refine ⟨?_, ?_, by omega⟩
                  · rw [hstep, if_pos (by omega)]
                  · rw [Nat.pow_succ]; omega
                clear hstep hai hx ha hc256 hb1 hc hgo
                go_wp2_with fail
                go_roundg (ln - i)
                case measure => exact hig
                case rel => exact ⟨i + 1, 10 * a + (x - 48), by go_num, by go_num, by omega, by omega, rfl, _, HN.out.2.2.symm, HN.out.2.1, HN.out.1⟩
              · have HN : Hid (digGo 0 l = none) := by
                  show _ = _
                  rw [hstep, if_neg (by omega)]
                clear hstep hai hx ha hc256 hb1 hc hgo
                by_cases d1 : x < 48
                · clear hd
                  go_wp2_with fail
                  go_ret
                  exact ⟨by rw [HD.out, HN.out]; rfl, rfl⟩
                · have d2 : 57 < x := by omega
                  clear hd
                  go_wp2_with fail
                  go_ret
                  exact ⟨by rw [HD.out, HN.out]; rfl, rfl⟩)

/-- What ParsePort gives. -/
def portN : Option Nat → Nat
  | none => 0
  | some n => n

set_option maxHeartbeats 2000000 in
set_option maxRecDepth 100000 in
theorem pport_ref (l : List UInt8) (w : World) :
    Calls Tryd.prog 36 #[.string (bs l)] w fun e w' => e = .returned (.tuple #[.int .i64 (portN (portV l) : Nat), .bool (portV l).isSome]) ∧ w' = w := by
  have HP := Lib.hid (pdec_ref l 65535 w)
  have HV := Lib.hid (portV_decR l)
  generalize bs l = s at HP ⊢
  go_enter Tryd.func36, Tryd.ntmps36
  go_wp2_with fail
  refine HP.out.mono ?_
  rintro e w1 ⟨rfl, rfl⟩
  cases hd : decR 65535 l with
  | none =>
    have HR : Hid (portV l = none) := by show _ = _; rw [HV.out, hd]
    have p1 : decI none < 1 := by decide
    clear hd
    go_wp2_with fail
    go_ret2
    exact ⟨by rw [HR.out]; rfl, rfl⟩
  | some n =>
    by_cases hn : n < 1
    · have HR : Hid (portV l = none) := by show _ = _; rw [HV.out, hd]; exact if_pos hn
      have p1 : decI (some n) < 1 := by show (n : Int) < 1; omega
      clear hd
      go_wp2_with fail
      go_ret2
      exact ⟨by rw [HR.out]; rfl, rfl⟩
    · have HR : Hid (portV l = some n) := by show _ = _; rw [HV.out, hd]; exact if_neg hn
      have p1 : ¬ decI (some n) < 1 := by show ¬ (n : Int) < 1; omega
      clear hd
      go_wp2_with fail
      go_ret2
      exact ⟨by rw [HR.out]; rfl, rfl⟩
end Go.Proofs.YtdnfmilihfkhmaaDoor
