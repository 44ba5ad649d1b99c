/-
  CONTRACTS of the reference's Split, over this seat's translation: what the call returns.
  Conditions: the string is shorter than 2 to the 31.
  CONTRACTS of the reference's ParseDecimal and ParsePort, over this seat's translation: what each call returns.
  Conditions: none.
  CONTRACTS of the reference's parseGroup, over this seat's translation: what the call returns.
  Conditions: none.
  CONTRACTS of the reference's parseIPv4, over this seat's translation: what the call returns.
  Conditions: the string is shorter than 2 to the 31.
  CONTRACTS of the reference's V6, over this seat's translation: what the call returns.
  Conditions: the groups lie in memory.
  CONTRACTS of the reference's parseGroups, over this seat's translation: what the call returns.
  Conditions: the string is shorter than 2 to the 31.
  CONTRACTS of the reference's Parse, over this seat's translation: what the call returns.
  Conditions: the string is shorter than 2 to the 31.
-/
import Derived.Test.YtnadendhboiliaaGreatA
import Derived.Test.YtnadendhboiliaaGreatGr
import Derived.Deep.RegionLawGrows
import Derived.Test.YtnadendhboiliaaGreatP
import Derived.Deep.RegionHeld3
namespace Go.Proofs.YtnadendhboiliaaGreat
open Go.ChangeShapes Go.WideShapes Go.ChangeAt Go.RowKit
set_option linter.unusedVariables false

theorem bs_index {l : List UInt8} {i : Nat} {c : UInt8} (h : l[i]? = some c) (w : World) : Sem.run PD (Instr.index 9 (.string (bs l)) (.int .i64 i)) w = .ok (.int .u8 (c.toNat : Int)) w := by
  obtain ⟨h1, e1⟩ := List.getElem?_eq_some_iff.1 h
  have h2 : (0 : Int) ≤ (i : Int) ∧ (i : Int) < ((bs l).size : Int) := by rw [bs_size]; omega
  show Sem.run Tryz.prog _ w = _
  have e2 : (bs l)[i]? = some c := by rw [getElem?_pos (bs l) i (by rw [bs_size]; exact h1)]; exact congrArg some e1
  simp [Instr.index, asIntOf, run_underlying Tryz.underlying9, e2]
theorem zero9 : ∀ w, (zeroValue 9).run Tryz.prog w = .ok (.string ⟨#[]⟩) w := by
  intro w
  kernel_rfl
theorem bs_extract (l : List UInt8) (a b : Nat) : (bs l).extract a b = bs ((l.drop a).take (b - a)) := by
  apply ByteArray.ext
  apply Array.toList_inj.1
  simp [bs]
set_option maxHeartbeats 4000000 in
set_option maxRecDepth 100000 in
theorem split_ref (l : List UInt8) (c : UInt8) (hl : l.length < 2147483648) (w : World) :
    Calls Tryz.prog 43 #[.string (bs l), .int .u8 (c.toNat : Int)] w fun e w' => ∃ a cap, e = .returned (.slice a (splitc c l).length cap) ∧ w'.ownsRow w.heap.size 9 1 (.slice a (splitc c l).length cap) (splitc c l).length (strs ((splitc c l).map bs)) ∧ Fr No w w' := by
  have hsz : (bs l).size = l.length := rfl
  have HL := Lib.hid hl
  generalize hln : l.length = ln at hsz
  have HLN := Lib.hid hln
  have hl2 : ln < 2147483648 := by omega
  have HIX : Hid (∀ (i : Nat) (x : UInt8) (w : World), l[i]? = some x → Sem.run PD (Instr.index 9 (.string (bs l)) (.int .i64 i)) w = .ok (.int .u8 (x.toNat : Int)) w) := fun i x w h => bs_index h w
  have HEX : Hid (∀ a b : Nat, (bs l).extract a b = bs ((l.drop a).take (b - a))) := fun a b => bs_extract l a b
  generalize hs : bs l = s at hsz HIX HEX ⊢
  have HS := Lib.hid hs
  clear hs hl hln
  go_enter Tryz.func43, Tryz.ntmps43
  have t3 := Tryz.underlying3
  have u3 := Tryz.runUnderlying3
  have g3 := Tryz.isAgg3
  have z3 := Tryz.sizeOf3
  have t4 := Tryz.underlying4
  have u4 := Tryz.runUnderlying4
  have g4 := Tryz.isAgg4
  have z4 := Tryz.sizeOf4
  have t5 := Tryz.underlying5
  have u5 := Tryz.runUnderlying5
  have g5 := Tryz.isAgg5
  have z5 := Tryz.sizeOf5
  have t9 := Tryz.underlying9
  have u9 := Tryz.runUnderlying9
  have g9 := Tryz.isAgg9
  have z9 := Tryz.sizeOf9
  have t82 := Tryz.underlying82
  have u82 := Tryz.runUnderlying82
  have g82 := Tryz.isAgg82
  have z82 := Tryz.sizeOf82
  have v9 := zero9
  have mixed : Tryz.prog.follows .mixedOrders = true := by kernel_rfl
  have hP : Tryz.prog = PD := rfl
  rw [hP] at t3 u3 g3 z3 t4 u4 g4 z4 t5 u5 g5 z5 t9 u9 g9 z9 t82 u82 g82 z82 v9 mixed ⊢
  have HP := Lib.hid hP.symm
  clear hP 
  go_wp2_with fail
  go_loopg [5, 6, 7] (ln + 1) (fun g s5 s6 s7 wr => ∃ (a : Option Addr) (n cap f i : Nat), s5 = .slice a n cap ∧ s6 = .int .i64 f ∧ s7 = .int .i64 i ∧ f ≤ i ∧ i ≤ ln ∧ ln - i < g ∧ n ≤ i ∧ Hid (∃ done, splitc c l = done ++ splitc c (l.drop f) ∧ done.length = n ∧ (∀ j x, f ≤ j → j < i → l[j]? = some x → x ≠ c) ∧ wr.ownsRow w.heap.size 9 1 (.slice a n cap) n (strs (done.map bs)) ∧ Fr No w wr))
  case atStart => exact ⟨none, 0, 0, 0, 0, rfl, by go_num, by go_num, by omega, by omega, by omega, by omega, [], rfl, rfl, fun j x h1 h2 => by omega, World.ownsRow_nil _ _ _ _, Fr.refl _ _⟩
  case round =>
    obtain ⟨a, n, cap, f, i, rfl, rfl, rfl, hfi, hil, hig, hni, HR⟩ := hrel
    obtain ⟨done, h1, h2, h3, h4, h5⟩ := HR.out
    have q1 : (0 : Int) ≤ (f : Int) := by omega
    have q2 : (f : Int) ≤ (i : Int) := by omega
    have q3 : (i : Int) ≤ (ln : Int) := by omega
    by_cases hi : i = ln
    · subst hi
      have HSP : Hid (splitc c l = done ++ [(l.drop f).take (i - f)]) := by
        have h6 := split_end h1 (fun j x ha hb => h3 j x ha (by rw [HLN.out] at hb; exact hb))
        rw [List.take_of_length_le (by rw [List.length_drop, HLN.out]; exact Nat.le_refl _)]
        exact h6
      have HX := Lib.hid (And.intro h4 (And.intro h2 (And.intro h5 h5.size)))
      have he := HEX.out f i
      have hbk := heap_alloc_new wr (.cells #[.string (s.extract f i)] 9)
      have hbf := Fr.alloc No wr (.cells #[.string (s.extract f i)] 9)
      rw [he] at hbk hbf
      have HB := Lib.hid (And.intro hbk hbf)
      clear h1 h2 h3 h4 h5 HR hbk hbf
      have HE := Lib.hid he
      clear he
      go_wp2_with (first | (at_builtin; go_loud (rw [HE.out]; refine wpList_append_vals elS rfl (.tmp 28) (.tmp 32) rfl w.heap.size _ n _ rfl (row_frNo HX.out.1 HB.out.2) (some ⟨wr.heap.size, 0, none⟩) 1 1 [Value.string (bs ((l.drop f).take (i - f)))] rfl (by simp [Value.oneCell']) rfl (At.block HB.out.1) (fun h => by cases h) (by unfold maxLen; omega) (by omega) (Nat.le_trans HX.out.2.2.2 HB.out.2.size) ?_; intro a6 c6 w6 hown6 hg6 hat6; have H6 : Hid (w6.ownsRow w.heap.size 9 1 (.slice a6 (n + 1) c6) (n + 1) (strs ((done ++ [(l.drop f).take (i - f)]).map bs)) ∧ Fr No w w6) := ⟨(by rw [List.map_append, strs_append]; exact hown6), (HX.out.2.2.1.trans HB.out.2).own_grown (row_frNo HX.out.1 HB.out.2) (Nat.le_refl _) hg6⟩; clear hown6 hg6 hat6)) | fail)
      go_ret
      refine ⟨a6, c6, ?_, ?_, H6.out.2⟩
      · rw [HSP.out, List.length_append, HX.out.2.1]; rfl
      · rw [HSP.out, List.length_append, HX.out.2.1]; exact H6.out.1
    · obtain ⟨x, hx⟩ : ∃ x, l[i]? = some x := ⟨_, List.getElem?_eq_getElem (by rw [HLN.out]; omega)⟩
      have hix := HIX.out i x wr hx
      have q4 : (i : Int) < (ln : Int) := by omega
      by_cases hxc : x = c
      · subst hxc
        have HSP : Hid (splitc x l = (done ++ [(l.drop f).take (i - f)]) ++ splitc x (l.drop (i + 1))) := split_hit h1 hfi h3 hx
        have HX := Lib.hid (And.intro h4 (And.intro h2 (And.intro h5 h5.size)))
        have he := HEX.out f i
        have hbk := heap_alloc_new wr (.cells #[.string (s.extract f i)] 9)
        have hbf := Fr.alloc No wr (.cells #[.string (s.extract f i)] 9)
        rw [he] at hbk hbf
        have HB := Lib.hid (And.intro hbk hbf)
        clear h1 h2 h3 h4 h5 HR hbk hbf
        have HE := Lib.hid he
        clear he
        go_wp2_with (first | (at_builtin; go_loud (rw [HE.out]; refine wpList_append_vals elS rfl (.tmp 19) (.tmp 24) rfl w.heap.size _ n _ rfl (row_frNo HX.out.1 HB.out.2) (some ⟨wr.heap.size, 0, none⟩) 1 1 [Value.string (bs ((l.drop f).take (i - f)))] rfl (by simp [Value.oneCell']) rfl (At.block HB.out.1) (fun h => by cases h) (by unfold maxLen; omega) (by omega) (Nat.le_trans HX.out.2.2.2 HB.out.2.size) ?_; intro a6 c6 w6 hown6 hg6 hat6; have H6 : Hid (w6.ownsRow w.heap.size 9 1 (.slice a6 (n + 1) c6) (n + 1) (strs ((done ++ [(l.drop f).take (i - f)]).map bs)) ∧ Fr No w w6) := ⟨(by rw [List.map_append, strs_append]; exact hown6), (HX.out.2.2.1.trans HB.out.2).own_grown (row_frNo HX.out.1 HB.out.2) (Nat.le_refl _) hg6⟩; clear hown6 hg6 hat6)) | fail)
        go_roundg (ln - i)
        case measure => exact hig
        case rel => exact ⟨a6, n + 1, c6, i + 1, i + 1, rfl, by go_num, by go_num, by omega, by omega, by omega, by omega, done ++ [(l.drop f).take (i - f)], HSP.out, by rw [List.length_append, HX.out.2.1]; rfl, fun j y h1 h2 => by omega, H6.out.1, H6.out.2⟩
      · have p1 : ¬ (x.toNat : Int) = (c.toNat : Int) := fun e => hxc (UInt8.toNat_inj.1 (Int.ofNat_inj.1 e))
        go_wp2_with fail
        go_roundg (ln - i)
        case measure => exact hig
        case rel =>
          refine ⟨a, n, cap, f, i + 1, rfl, rfl, by go_num, by omega, by omega, by omega, by omega, done, h1, h2, ?_, h4, h5⟩
          intro j y hj1 hj2 hy
          by_cases hji : j = i
          · subst hji; rw [hx] at hy; cases hy; exact hxc
          · exact h3 j y hj1 (by omega) hy
end Go.Proofs.YtnadendhboiliaaGreat
namespace Go.Proofs.YtnadendhboiliaaGreat
open Go.ChangeShapes Go.WideShapes Go.ChangeAt Go.RowKit
set_option linter.unusedVariables false

/-- A number, or -1. -/
def decI : Option Nat → Int
  | none => -1
  | some n => n
theorem bs_isEmpty (l : List UInt8) : (bs l).toList.isEmpty = l.isEmpty := by
  have : (bs l).toList = l := by rw [ByteArray.toList_eq]; rfl
  rw [this]
theorem pow10_le {i : Nat} (h : i ≤ 5) : 10 ^ i * 10 ≤ 1000000 := by
  have : i = 0 ∨ i = 1 ∨ i = 2 ∨ i = 3 ∨ i = 4 ∨ i = 5 := by omega
  rcases this with rfl | rfl | rfl | rfl | rfl | rfl <;> decide

set_option maxHeartbeats 4000000 in
set_option maxRecDepth 100000 in
theorem pdec_ref (l : List UInt8) (most : Nat) (w : World) :
    Calls Tryz.prog 45 #[.string (bs l), .int .i64 most] w fun e w' => e = .returned (.int .i64 (decI (decR most l))) ∧ w' = w := by
  have hsz : (bs l).size = l.length := rfl
  have hemp := bs_isEmpty l
  cases hl : l with
  | nil =>
    rw [hl] at hemp hsz
    have he : (bs []).toList.isEmpty = true := hemp
    generalize bs [] = s at hsz he ⊢
    clear hemp hsz
    go_enter Tryz.func45, Tryz.ntmps45
    go_wp2_with fail
    go_ret
    exact ⟨rfl, rfl⟩
  | cons c0 r =>
    rw [← hl]
    have he : (bs l).toList.isEmpty = false := by rw [hemp, hl]; rfl
    have hx0 := bs_index (l := l) (i := 0) (c := c0) (by rw [hl]; rfl)
    have hx0' : ∀ w, Sem.run Tryz.prog (Instr.index 9 (.string (bs l)) (.int .i64 0)) w = .ok (.int .u8 (c0.toNat : Int)) w := hx0
    have HIX : Hid (∀ (i : Nat) (x : UInt8) (w : World), l[i]? = some x → Sem.run Tryz.prog (Instr.index 9 (.string (bs l)) (.int .i64 i)) w = .ok (.int .u8 (x.toNat : Int)) w) := fun i x w h => bs_index h w
    have HH : Hid (l.head? = some c0 ∧ l ≠ []) := by rw [hl]; exact ⟨rfl, by simp⟩
    generalize bs l = s at hsz he hx0 hx0' HIX ⊢
    clear hx0 hemp hl
    by_cases h6 : 6 < l.length
    · have p1 : (6 : Int) < (l.length : Int) := by omega
      rw [show decR most l = none by rw [decR, if_pos (.inr (.inl h6))]]
      clear h6 HIX HH hx0'
      go_enter Tryz.func45, Tryz.ntmps45
      go_wp2_with fail
      go_ret
      exact ⟨rfl, rfl⟩
    · have p1 : ¬ (6 : Int) < (l.length : Int) := by omega
      by_cases h0 : c0 = 48 ∧ 1 < l.length
      · obtain ⟨rfl, h1⟩ := h0
        have p2 : (1 : Int) < (l.length : Int) := by omega
        have hx1 : ∀ w, Sem.run Tryz.prog (Instr.index 9 (.string s) (.int .i64 0)) w = .ok (.int .u8 48) w := hx0'
        rw [show decR most l = none by rw [decR, if_pos (.inr (.inr ⟨HH.out.1, h1⟩))]]
        clear h6 HIX HH hx0' h1
        go_enter Tryz.func45, Tryz.ntmps45
        go_wp2_with fail
        go_ret
        exact ⟨rfl, rfl⟩
      · have HD : Hid (decR most l = match digGo 0 l with
            | some n => if n ≤ most then some n else none
            | none => none) := by
          show _ = _
          rw [decR, if_neg]
          · cases digGo 0 l <;> rfl
          · rintro (h | h | h)
            · exact HH.out.2 h
            · exact h6 h
            · exact h0 ⟨Option.some.inj (HH.out.1.symm.trans h.1), h.2⟩
        have h01 : (c0.toNat : Int) = 48 → ¬ (1 : Int) < (l.length : Int) := fun e h => h0 ⟨UInt8.toNat_inj.1 (by show c0.toNat = 48; omega), by omega⟩
        obtain ⟨ln, hln⟩ : ∃ ln, l.length = ln := ⟨_, rfl⟩
        rw [hln] at hsz p1 h01 h6
        have HLN := Lib.hid hln
        obtain ⟨x0, hx0e⟩ : ∃ x0 : Int, (c0.toNat : Int) = x0 := ⟨_, rfl⟩
        rw [hx0e] at hx0' h01
        clear h0 hln hx0e HH
        have hl6 : ln ≤ 6 := by omega
        have hcond : (x0 = 48 ∧ ¬ (1 : Int) < (ln : Int)) ∨ ¬ x0 = 48 := by
          by_cases e : x0 = 48
          · exact .inl ⟨e, h01 e⟩
          · exact .inr e
        clear h01 h6
        have key : ∀ (w : World), True := fun _ => trivial
        clear key
        rcases hcond with ⟨pc, pd⟩ | pc
        all_goals (
          go_enter Tryz.func45, Tryz.ntmps45
          go_wp2_with fail
          clear hx0'
          go_loopg [5, 6] (ln + 1) (fun g s5 s6 wr => ∃ (i : Nat) (a : Int), s5 = .int .i64 a ∧ s6 = .int .i64 i ∧ i ≤ ln ∧ ln - i < g ∧ Hid (wr = w ∧ ∃ acc : Nat, a = acc ∧ acc < 10 ^ i ∧ digGo 0 l = digGo acc (l.drop i)))
          case atStart => exact ⟨0, 0, rfl, by go_num, by omega, by omega, rfl, 0, rfl, by decide, rfl⟩
          case round =>
            obtain ⟨i, a, rfl, rfl, hil, hig, HR⟩ := hrel
            obtain ⟨hw, acc, ha, hai, hgo⟩ := HR.out
            have hw' := hw.symm
            subst hw'
            clear hw HR
            by_cases hi : i = ln
            · subst hi
              rw [List.drop_of_length_le (by rw [HLN.out]; exact Nat.le_refl _)] at hgo
              have HV := Lib.hid (And.intro hgo ha)
              clear hgo hai
              by_cases hm : acc ≤ most
              · have pm : ¬ (most : Int) < a := by omega
                clear ha
                go_wp2_with fail
                go_ret
                exact ⟨by rw [HD.out, HV.out.1]; simp [digGo, hm, decI, HV.out.2], rfl⟩
              · have pm : (most : Int) < a := by omega
                clear ha
                go_wp2_with fail
                go_ret
                exact ⟨by rw [HD.out, HV.out.1]; simp [digGo, hm, decI], rfl⟩
            · obtain ⟨c, hc⟩ : ∃ c, l[i]? = some c := ⟨_, List.getElem?_eq_getElem (by rw [HLN.out]; omega)⟩
              have hix := HIX.out i c w hc
              have hstep := hgo.trans (digGo_step hc)
              have hb1 : 10 ^ i * 10 ≤ 1000000 := pow10_le (by omega)
              have q1 : (0 : Int) ≤ (i : Int) := by omega
              have q2 : (i : Int) < (ln : Int) := by omega
              obtain ⟨x, hx⟩ : ∃ x : Int, ((c.toNat : Nat) : Int) = x := ⟨_, rfl⟩
              rw [hx] at hix
              have hc256 : c.toNat < 256 := c.toNat_lt
              have x0 : 0 ≤ x := by omega
              have x1 : x ≤ 255 := by omega
              have a0 : 0 ≤ a := by omega
              have a1 : a ≤ 100000 := by omega
              have HS1 := Lib.hid (And.intro hstep (And.intro hai (And.intro hx ha)))
              by_cases hd : 48 ≤ x ∧ x ≤ 57
              · obtain ⟨d1, d2⟩ := hd
                have d3 : ¬ x < 48 := by omega
                have d4 : ¬ 57 < x := by omega
                have HN : Hid (digGo 0 l = digGo (10 * acc + (c.toNat - 48)) (l.drop (i + 1)) ∧ 10 * acc + (c.toNat - 48) < 10 ^ (i + 1) ∧ ((10 * acc + (c.toNat - 48) : Nat) : Int) = 10 * a + (x - 48)) := by
                  refine ⟨?_, ?_, by omega⟩
                  · rw [hstep, if_pos (by omega)]
                  · rw [Nat.pow_succ]; omega
                clear hstep hai hx ha hc256 hb1 hc hgo
                go_wp2_with fail
                go_roundg (ln - i)
                case measure => exact hig
                case rel => exact ⟨i + 1, 10 * a + (x - 48), by go_num, by go_num, by omega, by omega, rfl, _, HN.out.2.2.symm, HN.out.2.1, HN.out.1⟩
              · have HN : Hid (digGo 0 l = none) := by
                  show _ = _
                  rw [hstep, if_neg (by omega)]
                clear hstep hai hx ha hc256 hb1 hc hgo
                by_cases d1 : x < 48
                · clear hd
                  go_wp2_with fail
                  go_ret
                  exact ⟨by rw [HD.out, HN.out]; rfl, rfl⟩
                · have d2 : 57 < x := by omega
                  clear hd
                  go_wp2_with fail
                  go_ret
                  exact ⟨by rw [HD.out, HN.out]; rfl, rfl⟩)

/-- What ParsePort gives. -/
def portN : Option Nat → Nat
  | none => 0
  | some n => n

end Go.Proofs.YtnadendhboiliaaGreat
namespace Go.Proofs.YtnadendhboiliaaGreat
open Go.ChangeShapes Go.WideShapes Go.ChangeAt Go.RowKit
set_option linter.unusedVariables false

set_option maxHeartbeats 4000000 in
set_option maxRecDepth 100000 in
theorem pgrp_ref (l : List UInt8) (w : World) :
    Calls Tryz.prog 83 #[.string (bs l)] w fun e w' => e = .returned (.int .i64 (decI (hexV l))) ∧ w' = w := by
  have hsz : (bs l).size = l.length := rfl
  have hemp := bs_isEmpty l
  by_cases hl : l = []
  · subst hl
    have he : (bs []).toList.isEmpty = true := hemp
    generalize bs [] = s at hsz he ⊢
    clear hemp hsz
    go_enter Tryz.func83, Tryz.ntmps83
    go_wp2_with fail
    go_ret
    exact ⟨rfl, rfl⟩
  · have he : (bs l).toList.isEmpty = false := by rw [hemp]; cases l with
      | nil => exact absurd rfl hl
      | cons x r => rfl
    have HIX : Hid (∀ (i : Nat) (x : UInt8) (w : World), l[i]? = some x → Sem.run Tryz.prog (Instr.index 9 (.string (bs l)) (.int .i64 i)) w = .ok (.int .u8 (x.toNat : Int)) w) := fun i x w h => bs_index h w
    generalize bs l = s at hsz he HIX ⊢
    clear hemp
    by_cases h4 : 4 < l.length
    · have p1 : (4 : Int) < (l.length : Int) := by omega
      rw [show hexV l = none by rw [hexV, if_pos (.inr h4)]]
      clear h4 HIX hl
      go_enter Tryz.func83, Tryz.ntmps83
      go_wp2_with fail
      go_ret
      exact ⟨rfl, rfl⟩
    · have p1 : ¬ (4 : Int) < (l.length : Int) := by omega
      have HD : Hid (hexV l = hexGo 0 l) := by show _ = _; rw [hexV, if_neg (by rintro (h | h); exact hl h; exact h4 h)]
      obtain ⟨ln, hln⟩ : ∃ ln, l.length = ln := ⟨_, rfl⟩
      rw [hln] at hsz p1 h4
      have HLN := Lib.hid hln
      have hl4 : ln ≤ 4 := by omega
      clear hln h4 hl
      go_enter Tryz.func83, Tryz.ntmps83
      go_wp2_with fail
      go_loopg [3, 4] (ln + 1) (fun g s3 s4 wr => ∃ (i : Nat) (a : Int), s3 = .int .i64 a ∧ s4 = .int .i64 i ∧ i ≤ ln ∧ ln - i < g ∧ Hid (wr = w ∧ ∃ acc : Nat, a = acc ∧ acc < 16 ^ i ∧ hexGo 0 l = hexGo acc (l.drop i)))
      case atStart => exact ⟨0, 0, rfl, by go_num, by omega, by omega, rfl, 0, rfl, by decide, rfl⟩
      case round =>
        obtain ⟨i, a, rfl, rfl, hil, hig, HR⟩ := hrel
        obtain ⟨hw, acc, ha, hai, hgo⟩ := HR.out
        have hw' := hw.symm
        subst hw'
        clear hw HR
        by_cases hi : i = ln
        · subst hi
          rw [List.drop_of_length_le (by rw [HLN.out]; exact Nat.le_refl _)] at hgo
          have HV := Lib.hid (And.intro hgo ha)
          clear hgo hai ha
          go_wp2_with fail
          go_ret
          exact ⟨by rw [HD.out, HV.out.1]; simp [hexGo, decI, HV.out.2], rfl⟩
        · obtain ⟨c, hc⟩ : ∃ c, l[i]? = some c := ⟨_, List.getElem?_eq_getElem (by rw [HLN.out]; omega)⟩
          have hix := HIX.out i c w hc
          have hstep := hgo.trans (hexGo_step hc)
          have hb1 : 16 ^ i * 16 ≤ 65536 := pow16_le (by omega)
          have q1 : (0 : Int) ≤ (i : Int) := by omega
          have q2 : (i : Int) < (ln : Int) := by omega
          obtain ⟨x, hx⟩ : ∃ x : Int, ((c.toNat : Nat) : Int) = x := ⟨_, rfl⟩
          rw [hx] at hix
          have hc256 : c.toNat < 256 := c.toNat_lt
          have x0 : 0 ≤ x := by omega
          have x1 : x ≤ 255 := by omega
          have a0 : 0 ≤ a := by omega
          have a1 : a ≤ 4096 := by omega
          have hdef : hexDig c = if 48 ≤ c.toNat ∧ c.toNat ≤ 57 then some (c.toNat - 48) else if 97 ≤ c.toNat ∧ c.toNat ≤ 102 then some (c.toNat - 87) else if 65 ≤ c.toNat ∧ c.toNat ≤ 70 then some (c.toNat - 55) else none := rfl
          have SOME : Hid (∀ d : Nat, hexDig c = some d → d < 16 → hexGo 0 l = hexGo (acc * 16 + d) (l.drop (i + 1)) ∧ acc * 16 + d < 16 ^ (i + 1)) := fun d hd h16 => ⟨by rw [hstep, hd], by rw [Nat.pow_succ]; omega⟩
          have NONE : Hid (hexDig c = none → hexGo 0 l = none) := fun hd => by rw [hstep, hd]
          clear hstep hgo hai hb1 hc
          by_cases hd : 48 ≤ x ∧ x ≤ 57
          · obtain ⟨d1, d2⟩ := hd
            rw [if_pos (by omega)] at hdef
            have HN := Lib.hid (And.intro (SOME.out _ hdef (by omega)) (show ((acc * 16 + (c.toNat - 48) : Nat) : Int) = 16 * a + (x - 48) by omega))
            clear hdef hx ha hc256
            go_wp2_with fail
            go_roundg (ln - i)
            case measure => exact hig
            case rel => exact ⟨i + 1, 16 * a + (x - 48), by go_num, by go_num, by omega, by omega, rfl, _, HN.out.2.symm, HN.out.1.2, HN.out.1.1⟩
          · rw [if_neg (by omega)] at hdef
            by_cases he2 : 97 ≤ x ∧ x ≤ 102
            · obtain ⟨d1, d2⟩ := he2
              rw [if_pos (by omega)] at hdef
              have HN := Lib.hid (And.intro (SOME.out _ hdef (by omega)) (show ((acc * 16 + (c.toNat - 87) : Nat) : Int) = 16 * a + (x - 97) + 10 by omega))
              have d3 : 48 ≤ x := by omega
              have d4 : ¬ x ≤ 57 := by omega
              clear hdef hx ha hc256 hd
              go_wp2_with fail
              go_roundg (ln - i)
              case measure => exact hig
              case rel => exact ⟨i + 1, 16 * a + (x - 97) + 10, by go_num, by go_num, by omega, by omega, rfl, _, HN.out.2.symm, HN.out.1.2, HN.out.1.1⟩
            · rw [if_neg (by omega)] at hdef
              by_cases he3 : 65 ≤ x ∧ x ≤ 70
              · obtain ⟨d1, d2⟩ := he3
                rw [if_pos (by omega)] at hdef
                have HN := Lib.hid (And.intro (SOME.out _ hdef (by omega)) (show ((acc * 16 + (c.toNat - 55) : Nat) : Int) = 16 * a + (x - 65) + 10 by omega))
                have d3 : 48 ≤ x := by omega
                have d4 : ¬ x ≤ 57 := by omega
                have d5 : ¬ 97 ≤ x := by omega
                clear hdef hx ha hc256 hd he2
                go_wp2_with fail
                go_roundg (ln - i)
                case measure => exact hig
                case rel => exact ⟨i + 1, 16 * a + (x - 65) + 10, by go_num, by go_num, by omega, by omega, rfl, _, HN.out.2.symm, HN.out.1.2, HN.out.1.1⟩
              · rw [if_neg (by omega)] at hdef
                have HN := Lib.hid (NONE.out hdef)
                clear hdef hx ha hc256
                have hD : x < 48 ∨ (57 < x ∧ x < 65) ∨ (70 < x ∧ x < 97) ∨ 102 < x := by omega
                clear hd he2 he3
                rcases hD with h | ⟨h, h'⟩ | ⟨h, h'⟩ | h
                · have e1 : ¬ 48 ≤ x := by omega
                  have e2 : ¬ 97 ≤ x := by omega
                  have e3 : ¬ 65 ≤ x := by omega
                  go_wp2_with fail
                  go_ret
                  exact ⟨by rw [HD.out, HN.out]; rfl, rfl⟩
                · have e1 : 48 ≤ x := by omega
                  have e4 : ¬ x ≤ 57 := by omega
                  have e2 : ¬ 97 ≤ x := by omega
                  have e3 : ¬ 65 ≤ x := by omega
                  go_wp2_with fail
                  go_ret
                  exact ⟨by rw [HD.out, HN.out]; rfl, rfl⟩
                · have e1 : 48 ≤ x := by omega
                  have e4 : ¬ x ≤ 57 := by omega
                  have e2 : ¬ 97 ≤ x := by omega
                  have e3 : 65 ≤ x := by omega
                  have e5 : ¬ x ≤ 70 := by omega
                  go_wp2_with fail
                  go_ret
                  exact ⟨by rw [HD.out, HN.out]; rfl, rfl⟩
                · have e1 : 48 ≤ x := by omega
                  have e4 : ¬ x ≤ 57 := by omega
                  have e2 : 97 ≤ x := by omega
                  have e6 : ¬ x ≤ 102 := by omega
                  have e3 : 65 ≤ x := by omega
                  have e5 : ¬ x ≤ 70 := by omega
                  go_wp2_with fail
                  go_ret
                  exact ⟨by rw [HD.out, HN.out]; rfl, rfl⟩
end Go.Proofs.YtnadendhboiliaaGreat
namespace Go.Proofs.YtnadendhboiliaaGreat
open Go.ChangeShapes Go.WideShapes Go.ChangeAt Go.RowKit
set_option linter.unusedVariables false

/-- The sixteen bytes when the first numbers have been written. -/
def qpart (ns : List Nat) : List Nat := ns ++ List.replicate (16 - ns.length) 0
theorem qpart_nil : qpart [] = zeros := rfl
theorem qpart_length {ns : List Nat} (h : ns.length ≤ 16) : (qpart ns).length = 16 := by rw [qpart, List.length_append, List.length_replicate]; omega
theorem qpart_set {ns : List Nat} {x : Nat} (h : ns.length < 16) : (qpart ns).set ns.length x = qpart (ns ++ [x]) := by
  rw [qpart, qpart, List.set_append_right _ _ (Nat.le_refl _), Nat.sub_self, List.length_append, show 16 - ns.length = (16 - (ns.length + 1)) + 1 by omega, List.replicate_succ, List.set_cons_zero]
  simp
theorem qpart_quad {ns : List Nat} (h : ns.length = 4) : qpart ns = quad (some ns) := by
  match ns, h with
  | [a, b, c, d], _ => rfl

theorem strs_at {w : World} {a : Option Addr} {xs : List ByteArray} {i : Nat} {x : ByteArray} (h : At w a (strs xs)) (hx : xs[i]? = some x) : ∃ b off, a = some ⟨b, off, none⟩ ∧ w.cell? ⟨b, off + i, none⟩ = some (.string x) := h i _ (strs_get hx)

set_option maxHeartbeats 4000000 in
set_option maxRecDepth 100000 in
theorem pipv4_ref (l : List UInt8) (hl : l.length < 2147483648) (w : World) :
    Calls Tryz.prog 65 #[.string (bs l)] w fun e w' => e = .returned (.tuple #[.agg (adr false (quad (par 3 l))).toArray, .bool (isQ (par 3 l))]) ∧ Fr No w w' := by
  have v24 := zero25
  obtain ⟨Z, hZ⟩ : ∃ Z : Array Value, (adr false zeros).toArray = Z := ⟨_, rfl⟩
  rw [hZ] at v24
  have hz1 : Z.size = 17 ∧ ∀ u ∈ Z.toList, u.oneCell' = true := ⟨by rw [← hZ]; rfl, by rw [← hZ]; exact adr_one _ _⟩
  have hb0 := heap_alloc_new w (.cells Z 25)
  have hF0 := Fr.alloc No w (.cells Z 25)
  generalize hw0 : w.alloc (.cells Z 25) = w0 at hb0 hF0
  obtain ⟨n, hn⟩ : ∃ n, w.heap.size = n := ⟨_, rfl⟩
  rw [hn] at hb0
  have HN := Lib.hid (And.intro hn (And.intro hF0 hb0))
  have HSP := Lib.hid (fun w => split_ref l 46 hl w)
  have HPD : Hid (∀ (p : List UInt8) (w : World), Calls Tryz.prog 45 #[.string (bs p), .int .i64 255] w fun e w' => e = .returned (.int .i64 (decI (decV p))) ∧ w' = w) := fun p w => by
    have := pdec_ref p 255 w
    rw [← decV_decR] at this
    exact this
  have HPS := Lib.hid (par_split 3 l)
  have HZ := Lib.hid (And.intro hZ hz1)
  generalize bs l = s at HSP ⊢
  clear hb0 hF0 hZ
  go_enter Tryz.func65, Tryz.ntmps65
  have t3 := Tryz.underlying3
  have u3 := Tryz.runUnderlying3
  have g3 := Tryz.isAgg3
  have z3 := Tryz.sizeOf3
  have t4 := Tryz.underlying4
  have u4 := Tryz.runUnderlying4
  have g4 := Tryz.isAgg4
  have z4 := Tryz.sizeOf4
  have t5 := Tryz.underlying5
  have u5 := Tryz.runUnderlying5
  have g5 := Tryz.isAgg5
  have z5 := Tryz.sizeOf5
  have t9 := Tryz.underlying9
  have u9 := Tryz.runUnderlying9
  have g9 := Tryz.isAgg9
  have z9 := Tryz.sizeOf9
  have t23 := Tryz.underlying23
  have u23 := Tryz.runUnderlying23
  have g23 := Tryz.isAgg23
  have z23 := Tryz.sizeOf23
  have t25 := Tryz.underlying25
  have u25 := Tryz.runUnderlying25
  have g25 := Tryz.isAgg25
  have z25 := Tryz.sizeOf25
  have t82 := Tryz.underlying82
  have u82 := Tryz.runUnderlying82
  have g82 := Tryz.isAgg82
  have z82 := Tryz.sizeOf82
  have c43 := Tryz.call43
  have c45 := Tryz.call45
  have mixed : Tryz.prog.follows .mixedOrders = true := by kernel_rfl
  obtain ⟨k24, hk24⟩ : ∃ k, k = 17 := ⟨_, rfl⟩
  rw [← hk24] at z25
  have nk24 : ¬ k24 = 0 := by omega
  have HK25 := Lib.hid hk24
  have hP : Tryz.prog = PD := rfl
  rw [hP] at t3 u3 g3 z3 t4 u4 g4 z4 t5 u5 g5 z5 t9 u9 g9 z9 t23 u23 g23 z23 t25 u25 g25 z25 t82 u82 g82 z82 c43 c45 mixed v24 ⊢
  have HP := Lib.hid hP.symm
  clear hP hk24
  have hzk : Z.size = k24 := by rw [HK25.out]; exact hz1.1
  clear hz1
  go_wp2_with fail
  clear hw0 hn
  refine (at_prog HP.out (HSP.out w0)).mono ?_
  rintro e w1 ⟨a, cap, rfl, hown, hf⟩
  have hat := At.own hown
  have hne := split_ne 46 l
  generalize hps : splitc 46 l = ps at hown hat HPS hne ⊢
  generalize hpl : ps.length = k at hown ⊢
  have HPL := Lib.hid hpl
  obtain ⟨y, hst, hyb, hyf⟩ := store_all (P := PD) Z.toList (heap_alloc_new w1 (.cells Z 25)) (by rw [Array.length_toList]) HZ.out.2.2
  have HY : Hid (Fr No w y ∧ y.heap[n]? = some (.cells Z 25 (0, 0)) ∧ y.heap[w1.heap.size]? = some (.cells Z 25 (0, 0)) ∧ n < w1.heap.size ∧ At y a (strs (ps.map bs)) ∧ ∀ ad, a = some ad → ad.block < w1.heap.size) := by
    have h1 := hf.keep HN.out.2.2
    have hlt := (Array.getElem?_eq_some_iff.1 h1).1
    have hf2 := hf.trans (Fr.alloc No w1 (.cells Z 25))
    have h2 := hf2.keep HN.out.2.2
    have hal : ∀ ad, a = some ad → ad.block < w1.heap.size := fun ad had => by
      subst had
      have h0 : 0 < (strs (ps.map bs)).length := by rw [strs_length, List.length_map]; exact List.length_pos_iff.2 hne
      exact hat.lt h0
    refine ⟨((HN.out.2.1.trans hf).trans (Fr.alloc No w1 (.cells Z 25))).ofNew hyf fun k hk => .inr ?_, ?_, by simpa using hyb, hlt, ?_, hal⟩
    · rw [hk]; exact Nat.le_trans HN.out.2.1.size hf.size
    · exact (hyf.block _ (Array.getElem?_eq_some_iff.1 h2).1 (by omega)).trans h2
    · exact (hat.frNo (Fr.alloc No w1 (.cells Z 25))).fr hyf (fun ad had hk => by have := hal ad had; omega)
  have HSTO : Hid (∀ (V : List Value) (w3 : World), V.length = 17 → (∀ u ∈ V, u.oneCell' = true) → Fr (fun k => k = w1.heap.size) y w3 → ∃ y', Sem.run PD (storeCells ⟨n, 0, none⟩ V 0) w3 = .ok () y' ∧ y'.heap[n]? = some (.cells V.toArray 25 (0, 0)) ∧ Fr No w y') := fun V w3 hv h1 hf => by
    have hnm := HY.out.2.2.2.1
    have hbn := (hf.block _ (Array.getElem?_eq_some_iff.1 HY.out.2.1).1 (by omega)).trans HY.out.2.1
    obtain ⟨y', h2, h3, h4⟩ := store_all (P := PD) V hbn (by rw [hv, HZ.out.2.1]) h1
    refine ⟨y', h2, h3, (HY.out.1.ofNew hf fun k hk => .inr ?_).ofNew h4 fun k hk => .inr ?_⟩
    · rw [hk, HN.out.1]; omega
    · rw [hk, HN.out.1]; exact Nat.le_refl _
  clear hown hat hf hyb hyf hpl hne
  by_cases hk4 : k = 4
  · subst hk4
    obtain ⟨p0, hp0⟩ : ∃ p0, ps[0]? = some p0 := ⟨_, List.getElem?_eq_getElem (by rw [HPL.out]; omega)⟩
    obtain ⟨ab, ao, rfl, -⟩ := strs_at (i := 0) HY.out.2.2.2.2.1 (by rw [List.getElem?_map, hp0]; rfl)
    clear hp0
    go_wp2_with fail
    clear hst
    generalize hm : w1.heap.size = m at HY HSTO ⊢
    clear hm
    go_loopg [6] 5 (fun g s6 wr => ∃ i : Nat, s6 = .int .i64 i ∧ i ≤ 4 ∧ 4 - i < g ∧ Hid (∃ ns, ns.length = i ∧ allV (ps.take i) = some ns ∧ Fr (fun k => k = m) y wr ∧ wr.heap[m]? = some (.cells (adr false (qpart ns)).toArray 25 (0, 0))))
    case atStart => exact ⟨0, by go_num, by omega, by omega, [], rfl, rfl, Fr.refl _ _, by rw [qpart_nil, HZ.out.1]; exact HY.out.2.2.1⟩
    case round =>
      obtain ⟨i, rfl, hi4, hig, HR⟩ := hrel
      obtain ⟨ns, hnl, hall, hfr, hbm⟩ := HR.out
      by_cases hi : i = 4
      · subst hi
        have hV : (adr false (qpart ns)).length = 17 := by rw [adr_length, qpart_length (by omega)]
        obtain ⟨y', hs2, hb2, hf2⟩ := HSTO.out (adr false (qpart ns)) wr hV (adr_one _ _) hfr
        have hl2 : Sem.run PD (loadCellsFrom ⟨m, 0, none⟩ 0 k24 #[]) wr = .ok (adr false (qpart ns)).toArray wr := by rw [HK25.out]; exact load_all hbm hV
        have HPR : Hid (par 3 l = some ns) := by
          show _ = _
          rw [HPS.out, if_pos HPL.out, ← hall, List.take_of_length_le (by rw [HPL.out]; omega)]
        have H2 := Lib.hid (And.intro hb2 (And.intro hf2 (And.intro hV hnl)))
        have hVk : (adr false (qpart ns)).length = k24 := by rw [HK25.out]; exact hV
        clear hb2 hf2 hV hnl hall hfr hbm HR
        generalize hVV : adr false (qpart ns) = V at hs2 hl2 H2 hVk
        have hs3 : Sem.run PD (storeCells ⟨n, 0, none⟩ V.toArray.toList 0) wr = .ok () y' := hs2
        have hVk2 : V.toArray.size = k24 := by rw [List.size_toArray]; exact hVk
        have HVV := Lib.hid hVV
        clear hVV
        go_wp2_with fail
        refine bodyPost_ret_by (results_agg_tmp rfl _ (b := n) (k := 17) (cs := V.toArray) (Tryz.isAgg25 _) (Tryz.sizeOf25 _) rfl (load_all H2.out.1 H2.out.2.2.1)) rfl ?_
        exact ⟨by rw [HPR.out, ← HVV.out, qpart_quad H2.out.2.2.2]; rfl, H2.out.2.1⟩
      · obtain ⟨p, hp⟩ : ∃ p, ps[i]? = some p := ⟨_, List.getElem?_eq_getElem (by rw [HPL.out]; omega)⟩
        have c1 : wr.cell? ⟨ab, ao + i, none⟩ = some (.string (bs p)) := by
          obtain ⟨b', o', he, hc⟩ := strs_at (i := i) (HY.out.2.2.2.2.1.fr hfr (fun ad had hk => by have := HY.out.2.2.2.2.2 ad had; omega)) (by rw [List.getElem?_map, hp]; rfl)
          cases he
          exact hc
        have q1 : (0 : Int) ≤ (i : Int) := by omega
        have q2 : (i : Int) < 4 := by omega
        have q3 : (i : Int) < 16 := by omega
        have htk : ps.take (i + 1) = ps.take i ++ [p] := by rw [List.take_add_one, hp]; rfl
        have HA := Lib.hid (And.intro hnl (And.intro hall (And.intro hfr (And.intro hbm (And.intro htk hp)))))
        have hL := qpart_length (ns := ns) (by omega)
        obtain ⟨z1, hz1⟩ : ∃ z, (qpart ns)[i]? = some z := ⟨_, List.getElem?_eq_getElem (by rw [hL]; omega)⟩
        have d1 := adr_cell hbm hz1
        have f1 := frozen_of_row wr m (1 + i) _ _ hbm
        clear hnl hall hfr hbm htk hp HR hL hz1
        go_wp2_with fail
        refine (at_prog HP.out (HPD.out p wr)).mono ?_
        rintro e w3 ⟨rfl, rfl⟩
        cases hd : decV p with
        | none =>
          have HPR : Hid (par 3 l = none) := by
            show _ = _
            rw [HPS.out, if_pos HPL.out, allV_none (List.mem_of_getElem? HA.out.2.2.2.2.2) hd]
          have hneg : decI none < 0 := by decide
          obtain ⟨y', hs2, hb2, hf2⟩ := HSTO.out Z.toList w3 (by rw [Array.length_toList]; exact HZ.out.2.1) HZ.out.2.2 HA.out.2.2.1
          have H2 := Lib.hid (And.intro hb2 hf2)
          clear hb2 hf2 hd d1 f1 c1
          go_wp2_with fail
          refine bodyPost_ret_by (results_agg_tmp rfl _ (b := n) (k := 17) (cs := Z) (Tryz.isAgg25 _) (Tryz.sizeOf25 _) rfl (load_block H2.out.1 HZ.out.2.1 (fun j v hv => by simpa using hv))) rfl ?_
          exact ⟨by rw [HPR.out, ← HZ.out.1]; rfl, H2.out.2⟩
        | some x =>
          have hx256 := decV_lt hd
          have HDD := Lib.hid hd
          have hneg : ¬ decI (some x) < 0 := by show ¬ (x : Int) < 0; omega
          have hw8 : IntKind.u8.wrap (decI (some x)) = (x : Int) := by show IntKind.u8.wrap (x : Int) = _; simp [IntKind.wrap, IntKind.bits, IntKind.signed]; omega
          clear hd
          generalize decI (some x) = dx at hneg hw8 ⊢
          go_wp2_with fail
          go_roundg (4 - i)
          case measure => exact hig
          case rel =>
            have e1 := adr_set (i := i) (x := x) HA.out.2.2.2.1
            have e2 := qpart_set (ns := ns) (x := x) (by rw [HA.out.1]; omega)
            rw [HA.out.1] at e2
            rw [e2] at e1
            refine ⟨i + 1, by go_num, by omega, by omega, ns ++ [x], by rw [List.length_append, HA.out.1]; rfl, ?_, HA.out.2.2.1.trans (Fr.setCell (fun k => k = m) _ _ _ rfl), ?_⟩
            · rw [HA.out.2.2.2.2.1, allV_snoc, HA.out.2.1, HDD.out]
            · simpa using e1
  · have p4 : ¬ (k : Int) = 4 := by omega
    have HR : Hid (par 3 l = none) := by show _ = _; rw [HPS.out, if_neg (by rw [HPL.out]; exact hk4)]
    obtain ⟨y', hs2, hb2, hf2⟩ := HSTO.out Z.toList y (by rw [Array.length_toList]; exact HZ.out.2.1) HZ.out.2.2 (Fr.refl _ _)
    have hl2 : Sem.run PD (loadCellsFrom ⟨w1.heap.size, 0, none⟩ 0 k24 #[]) y = .ok Z y := by rw [HK25.out]; exact load_block HY.out.2.2.1 HZ.out.2.1 (fun j v hv => by simpa using hv)
    have H2 := Lib.hid (And.intro hb2 hf2)
    clear hb2 hf2 hk4
    go_wp2_with fail
    refine bodyPost_ret_by (results_agg_tmp rfl _ (b := n) (k := 17) (cs := Z) (Tryz.isAgg25 _) (Tryz.sizeOf25 _) rfl (load_block H2.out.1 HZ.out.2.1 (fun j v hv => by simpa using hv))) rfl ?_
    exact ⟨by rw [HR.out, ← HZ.out.1]; rfl, H2.out.2⟩
end Go.Proofs.YtnadendhboiliaaGreat
namespace Go.Proofs.YtnadendhboiliaaGreat
open Go.ChangeShapes Go.WideShapes Go.ChangeAt Go.RowKit
set_option linter.unusedVariables false

set_option maxHeartbeats 2000000 in
set_option maxRecDepth 100000 in
theorem v6r_bad (a : Option Addr) (n c : Nat) (w : World) (hn : n ≠ 8) :
    Calls Tryz.prog 67 #[.slice a n c] w fun e w' => e = .returned (.tuple #[.agg (adr false zeros).toArray, .bool false]) ∧ Fr No w w' := by
  have hn' : ¬ (n : Int) = 8 := by omega
  have v24 := zero25
  have hz : (adr false zeros).toArray.size = 17 := rfl
  obtain ⟨y, hst, hyb, hyf⟩ := store_all (P := PD) (adr false zeros) (heap_alloc_new w (.cells (adr false zeros).toArray 25)) rfl (adr_one _ _)
  have HY : Hid (y.heap[w.heap.size]? = some (.cells (adr false zeros).toArray 25 (0, 0)) ∧ Fr No w y) := ⟨hyb, (Fr.alloc No w (.cells (adr false zeros).toArray 25)).ofNew hyf fun k hk => .inr (by omega)⟩
  have hl0 : (adr false zeros).toArray.toList = adr false zeros := rfl
  obtain ⟨Z, hZ⟩ : ∃ Z : Array Value, (adr false zeros).toArray = Z := ⟨_, rfl⟩
  rw [← hl0, hZ] at hst
  rw [hZ] at v24 HY hz ⊢
  clear hyb hyf hl0
  have HZ := Lib.hid hZ
  clear hZ
  go_enter Tryz.func67, Tryz.ntmps67
  have t3 := Tryz.underlying3
  have u3 := Tryz.runUnderlying3
  have g3 := Tryz.isAgg3
  have z3 := Tryz.sizeOf3
  have t4 := Tryz.underlying4
  have u4 := Tryz.runUnderlying4
  have g4 := Tryz.isAgg4
  have z4 := Tryz.sizeOf4
  have t23 := Tryz.underlying23
  have u23 := Tryz.runUnderlying23
  have g23 := Tryz.isAgg23
  have z23 := Tryz.sizeOf23
  have t25 := Tryz.underlying25
  have u25 := Tryz.runUnderlying25
  have g25 := Tryz.isAgg25
  have z25 := Tryz.sizeOf25
  have t105 := Tryz.underlying105
  have u105 := Tryz.runUnderlying105
  have g105 := Tryz.isAgg105
  have z105 := Tryz.sizeOf105
  have mixed : Tryz.prog.follows .mixedOrders = true := by kernel_rfl
  obtain ⟨k24, hk24⟩ : ∃ k, k = 17 := ⟨_, rfl⟩
  rw [← hk24] at z25
  have nk24 : ¬ k24 = 0 := by omega
  have HK25 := Lib.hid hk24
  have hP : Tryz.prog = PD := rfl
  rw [hP] at t3 u3 g3 z3 t4 u4 g4 z4 t23 u23 g23 z23 t25 u25 g25 z25 t105 u105 g105 z105 mixed v24 ⊢
  have HP := Lib.hid hP.symm
  clear hP hk24
  rw [← HK25.out] at hz
  go_wp2_with fail
  refine bodyPost_ret_by (results_agg_tmp rfl _ (b := w.heap.size) (k := 17) (cs := Z) (Tryz.isAgg25 _) (Tryz.sizeOf25 _) rfl (load_block HY.out.1 (by rw [← HK25.out]; exact hz) (fun j v hv => by simpa using hv))) rfl ?_
  exact ⟨rfl, HY.out.2⟩

set_option maxHeartbeats 2000000 in
set_option maxRecDepth 100000 in
theorem v6r_good (ad : Addr) (c : Nat) (gs : List Nat) (w : World) (h : At w (some ad) (nums .u16 gs)) (h8 : gs.length = 8) (hb : ∀ g ∈ gs, g < 65536) :
    Calls Tryz.prog 67 #[.slice (some ad) 8 c] w fun e w' => e = .returned (.tuple #[.agg (adr true (pack gs)).toArray, .bool true]) ∧ Fr No w w' := by
  obtain ⟨ab, ao, rfl⟩ : ∃ ab ao, ad = ⟨ab, ao, none⟩ := by
    obtain ⟨b, o, he, _⟩ := h 0 (.int .u16 gs[0]) (nums_get (List.getElem?_eq_getElem (by omega)))
    exact ⟨b, o, Option.some.inj he⟩
  have v24 : ∀ w, (zeroValue 25).run Tryz.prog w = .ok (.agg #[.bool false, .int .u8 0, .int .u8 0, .int .u8 0, .int .u8 0, .int .u8 0, .int .u8 0, .int .u8 0, .int .u8 0, .int .u8 0, .int .u8 0, .int .u8 0, .int .u8 0, .int .u8 0, .int .u8 0, .int .u8 0, .int .u8 0]) w := zero25
  have HS := Lib.hid (And.intro h (And.intro h8 hb))
  clear h h8 hb
  go_enter Tryz.func67, Tryz.ntmps67
  have t3 := Tryz.underlying3
  have u3 := Tryz.runUnderlying3
  have g3 := Tryz.isAgg3
  have z3 := Tryz.sizeOf3
  have t4 := Tryz.underlying4
  have u4 := Tryz.runUnderlying4
  have g4 := Tryz.isAgg4
  have z4 := Tryz.sizeOf4
  have t5 := Tryz.underlying5
  have u5 := Tryz.runUnderlying5
  have g5 := Tryz.isAgg5
  have z5 := Tryz.sizeOf5
  have t23 := Tryz.underlying23
  have u23 := Tryz.runUnderlying23
  have g23 := Tryz.isAgg23
  have z23 := Tryz.sizeOf23
  have t25 := Tryz.underlying25
  have u25 := Tryz.runUnderlying25
  have g25 := Tryz.isAgg25
  have z25 := Tryz.sizeOf25
  have t105 := Tryz.underlying105
  have u105 := Tryz.runUnderlying105
  have g105 := Tryz.isAgg105
  have z105 := Tryz.sizeOf105
  have t109 := Tryz.underlying109
  have u109 := Tryz.runUnderlying109
  have g109 := Tryz.isAgg109
  have z109 := Tryz.sizeOf109
  have t57 := Tryz.underlying57
  have u57 := Tryz.runUnderlying57
  have g57 := Tryz.isAgg57
  have z57 := Tryz.sizeOf57
  have mixed : Tryz.prog.follows .mixedOrders = true := by kernel_rfl
  have hP : Tryz.prog = PD := rfl
  rw [hP] at t3 u3 g3 z3 t4 u4 g4 z4 t5 u5 g5 z5 t23 u23 g23 z23 t25 u25 g25 z25 t105 u105 g105 z105 t109 u109 g109 z109 t57 u57 g57 z57 mixed v24 ⊢
  have HP := Lib.hid hP.symm
  clear hP 
  go_wp2_with fail
  obtain ⟨b1, b2, hF⟩ := alloc2 w (.cells #[.bool false, .int .u8 0, .int .u8 0, .int .u8 0, .int .u8 0, .int .u8 0, .int .u8 0, .int .u8 0, .int .u8 0, .int .u8 0, .int .u8 0, .int .u8 0, .int .u8 0, .int .u8 0, .int .u8 0, .int .u8 0, .int .u8 0] 25) (.cells #[.bool true, .int .u8 0, .int .u8 0, .int .u8 0, .int .u8 0, .int .u8 0, .int .u8 0, .int .u8 0, .int .u8 0, .int .u8 0, .int .u8 0, .int .u8 0, .int .u8 0, .int .u8 0, .int .u8 0, .int .u8 0, .int .u8 0] 25)
  generalize (w.alloc (.cells #[.bool false, .int .u8 0, .int .u8 0, .int .u8 0, .int .u8 0, .int .u8 0, .int .u8 0, .int .u8 0, .int .u8 0, .int .u8 0, .int .u8 0, .int .u8 0, .int .u8 0, .int .u8 0, .int .u8 0, .int .u8 0, .int .u8 0] 25)).alloc (.cells #[.bool true, .int .u8 0, .int .u8 0, .int .u8 0, .int .u8 0, .int .u8 0, .int .u8 0, .int .u8 0, .int .u8 0, .int .u8 0, .int .u8 0, .int .u8 0, .int .u8 0, .int .u8 0, .int .u8 0, .int .u8 0, .int .u8 0] 25) = w2 at b1 b2 hF ⊢
  obtain ⟨n, hn⟩ : ∃ n, w.heap.size = n := ⟨_, rfl⟩
  rw [hn] at b1 b2 ⊢
  have HN : Hid (w.heap.size = n ∧ Fr No w w2 ∧ w2.heap[n]? = some (.cells (adr false zeros).toArray 25 (0, 0)) ∧ w2.heap[n + 1]? = some (.cells (adr true zeros).toArray 25 (0, 0))) := ⟨hn, hF, b1, b2⟩
  clear hn hF b1 b2 v24
  go_loopg [5] 9 (fun g s wr => ∃ i : Nat, s = .int .i64 i ∧ i ≤ 8 ∧ 8 - i < g ∧ Hid (Fr (fun k => k = n + 1) w2 wr ∧ wr.heap[n + 1]? = some (.cells (adr true (part gs i)).toArray 25 (0, 0))))
  case atStart => exact ⟨0, by go_num, by omega, by omega, Fr.refl _ _, HN.out.2.2.2⟩
  case round =>
    obtain ⟨i, rfl, hi8, hig, HR⟩ := hrel
    by_cases hi : i = 8
    · subst hi
      obtain ⟨k24, hk⟩ : ∃ k, k = 17 := ⟨_, rfl⟩
      rw [← hk] at z25
      have hR := HR.out
      rw [part_all HS.out.2.1] at hR
      have hp : Bytes (pack gs) := ⟨by rw [pack_length, HS.out.2.1], pack_bytes HS.out.2.2⟩
      have hone := adr_one true (pack gs)
      have hA : (adr true (pack gs)).toArray.size = 17 := by rw [List.size_toArray, adr_length, hp.1]
      have hbn : wr.heap[n]? = some (.cells (adr false zeros).toArray 25 (0, 0)) := (hR.1.block n (Array.getElem?_eq_some_iff.1 HN.out.2.2.1).1 (by omega)).trans HN.out.2.2.1
      have hl : Sem.run PD (loadCellsFrom ⟨n + 1, 0, none⟩ 0 k24 #[]) wr = .ok (adr true (pack gs)).toArray wr := by rw [hk]; exact load_block hR.2 hA (fun j v hv => by simpa using hv)
      obtain ⟨y, hst, hyb, hyf⟩ := store_all (P := PD) (adr true (pack gs)).toArray.toList hbn (by rw [Array.length_toList, hA]; rfl) hone
      have hsz : (adr true (pack gs)).toArray.size = k24 := by rw [hk]; exact hA
      have HY : Hid (y.heap[n]? = some (.cells (adr true (pack gs)).toArray 25 (0, 0)) ∧ Fr No w y) := by
        refine ⟨by simpa using hyb, ?_⟩
        refine (HN.out.2.1.ofNew hR.1 fun k hk => .inr (by rw [HN.out.1, hk]; omega)).ofNew hyf fun k hk => .inr (by rw [HN.out.1, hk]; omega)
      have nk : ¬ k24 = 0 := by omega
      have HK := Lib.hid (And.intro hk hA)
      clear hk hA hR hp hone hbn hyb hyf HR
      generalize hAA : (adr true (pack gs)).toArray = A at hl hst hsz HY HK ⊢
      have HAA := Lib.hid hAA
      clear hAA
      go_wp2_with fail
      refine bodyPost_ret_by (results_agg_tmp rfl _ (b := n) (k := 17) (cs := A) (Tryz.isAgg25 _) (Tryz.sizeOf25 _) rfl (load_block HY.out.1 HK.out.2 (fun j v hv => by simpa using hv))) rfl ?_
      exact ⟨by rw [HAA.out]; rfl, HY.out.2⟩
    · obtain ⟨g, hg⟩ : ∃ g, gs[i]? = some g := ⟨_, List.getElem?_eq_getElem (by rw [HS.out.2.1]; omega)⟩
      have hg6 : g < 65536 := HS.out.2.2 g (List.mem_of_getElem? hg)
      have c1 : wr.cell? ⟨ab, ao + i, none⟩ = some (.int .u16 g) := by
        obtain ⟨b', o', he, hc⟩ := (((HS.out.1.frNo HN.out.2.1).fr HR.out.1 (fun ad ha hk => by
          have hlt := HS.out.1.lt (by rw [nums_length, HS.out.2.1]; omega)
          cases ha
          have := HN.out.1
          simp at hlt hk
          omega)) i _ (nums_get hg))
        cases he
        exact hc
      have hne : ¬ n + 1 = ab := by
        have hlt := HS.out.1.lt (by rw [nums_length, HS.out.2.1]; omega)
        have := HN.out.1
        simp at hlt
        omega
      have hne' : ¬ ab = n + 1 := fun h => hne h.symm
      have hL := part_length HS.out.2.1 (show i ≤ 8 by omega)
      obtain ⟨z1, hz1⟩ : ∃ z, (part gs i)[2 * i]? = some z := ⟨_, List.getElem?_eq_getElem (by rw [hL]; omega)⟩
      obtain ⟨z2, hz2⟩ : ∃ z, (part gs i)[2 * i + 1]? = some z := ⟨_, List.getElem?_eq_getElem (by rw [hL]; omega)⟩
      have d1 := adr_cell HR.out.2 hz1
      have d2 := adr_cell HR.out.2 hz2
      have f1 := frozen_of_row wr (n + 1) (1 + 2 * i) _ _ HR.out.2
      have f2 := frozen_of_row wr (n + 1) (1 + (2 * i + 1)) _ _ HR.out.2
      have q1 : (0 : Int) ≤ (i : Int) := by omega
      have q2 : (i : Int) < 8 := by omega
      have q3 : (0 : Int) ≤ 2 * (i : Int) := by omega
      have q4 : 2 * (i : Int) < 16 := by omega
      have q5 : (0 : Int) ≤ 2 * (i : Int) + 1 := by omega
      have q6 : 2 * (i : Int) + 1 < 16 := by omega
      clear hL
      go_wp2_with fail
      go_region
      go_wp2_with fail
      go_roundg (8 - i)
      case measure => exact hig
      case rel =>
        have e1 := adr_set (i := 2 * i) (x := g / 256) HR.out.2
        have e2 := adr_set (i := 2 * i + 1) (x := g % 256) e1
        rw [part_step HS.out.2.1 hg] at e2
        refine ⟨i + 1, by go_num, by omega, by omega, ?_, ?_⟩
        · exact HR.out.1.trans (((Fr.setCell (fun k => k = n + 1) _ _ _ rfl).trans (Fr.setCell (fun k => k = n + 1) _ _ _ rfl)).trans (Fr.drew _ _))
        · rw [show ∀ x : World, x.drew.heap = x.heap from fun _ => rfl]
          simpa using e2

/-- V6, whatever the groups. -/
theorem v6_ref (a : Option Addr) (n c : Nat) (gs : List Nat) (w : World) (h : At w a (nums .u16 gs)) (hn : gs.length = n) (hb : ∀ g ∈ gs, g < 65536) :
    Calls Tryz.prog 67 #[.slice a n c] w fun e w' => e = .returned (.tuple #[.agg (adr (decide (n = 8)) (v6Of gs)).toArray, .bool (decide (n = 8))]) ∧ Fr No w w' := by
  by_cases h8 : n = 8
  · subst h8
    cases a with
    | none =>
      obtain ⟨b, o, he, _⟩ := h 0 (.int .u16 gs[0]) (nums_get (List.getElem?_eq_getElem (by omega)))
      cases he
    | some ad =>
      refine (v6r_good ad c gs w h hn hb).mono ?_
      rintro e w' ⟨rfl, hf⟩
      exact ⟨by rw [v6Of, if_pos hn]; rfl, hf⟩
  · refine (v6r_bad a n c w h8).mono ?_
    rintro e w' ⟨rfl, hf⟩
    exact ⟨by rw [v6Of, if_neg (by omega), decide_eq_false h8], hf⟩
end Go.Proofs.YtnadendhboiliaaGreat
namespace Go.Proofs.YtnadendhboiliaaGreat
open Go.ChangeShapes Go.WideShapes Go.ChangeAt Go.RowKit
set_option linter.unusedVariables false

theorem grpGo_one (last : Bool) (p : List UInt8) : grpGo last [p] = match (if last then par 3 p else none) with
    | some xs => some (two xs)
    | none => (hexV p).map fun g => [g] := by
  rw [grpGo]
  generalize (if last = true then par 3 p else none) = o
  cases o <;> rfl
theorem grpGo_more (last : Bool) (p : List UInt8) {r : List (List UInt8)} (h : r ≠ []) : grpGo last (p :: r) = match hexV p, grpGo last r with
    | some g, some gs => some (g :: gs)
    | _, _ => none := by
  match r, h with
  | q :: r, _ => rw [grpGo]; cases hexV p <;> cases grpGo last (q :: r) <;> rfl
theorem two_quad {xs : List Nat} (h : xs.length = 4) (hb : ∀ x ∈ xs, x < 256) : ∃ a b c d, xs = [a, b, c, d] ∧ a < 256 ∧ b < 256 ∧ c < 256 ∧ d < 256 := by
  match xs, h with
  | [a, b, c, d], _ => exact ⟨a, b, c, d, rfl, hb a (by simp), hb b (by simp), hb c (by simp), hb d (by simp)⟩

/-- What parseGroups hands back: the groups in a row of its own, or nothing. -/
def GrpQ (w0 w : World) (o : Option (List Nat)) (e : Ending) : Prop := (∃ gs a n cap, o = some gs ∧ gs.length = n ∧ e = .returned (.tuple #[.slice a n cap, .bool true]) ∧ w.ownsRow w0.heap.size 109 1 (.slice a n cap) n (nums .u16 gs)) ∨ (o = none ∧ e = .returned (.tuple #[.slice none 0 0, .bool false]))

theorem zero109 : ∀ w, (zeroValue 109).run Tryz.prog w = .ok (.int .u16 0) w := by
  intro w
  kernel_rfl
theorem row_base {w : World} {b b' e K n : Nat} {v : Value} {xs : List Value} (h : w.ownsRow b e K v n xs) (hb : b' ≤ b) : w.ownsRow b' e K v n xs := by
  refine ⟨h.1, ?_⟩
  rcases h.2 with h1 | ⟨g, cap, cur, hv, hb', hg, hr⟩
  · exact .inl h1
  · exact .inr ⟨g, cap, cur, hv, Nat.le_trans hb hb', hg, hr⟩

set_option maxHeartbeats 8000000 in
set_option maxRecDepth 100000 in
theorem pgrps_ref (l : List UInt8) (last : Bool) (hl : l.length < 2147483648) (w : World) :
    Calls Tryz.prog 66 #[.string (bs l), .bool last] w fun e w' => GrpQ w w' (grpP last l) e ∧ Fr No w w' := by
  have hemp := bs_isEmpty l
  by_cases hne : l = []
  · subst hne
    have he : (bs []).toList.isEmpty = true := hemp
    generalize bs [] = s at he ⊢
    clear hemp hl
    go_enter Tryz.func66, Tryz.ntmps66
    go_wp2_with fail
    go_ret2
    exact ⟨.inl ⟨[], none, 0, 0, rfl, rfl, rfl, World.ownsRow_nil _ _ _ _⟩, Fr.refl _ _⟩
  · have he : (bs l).toList.isEmpty = false := by rw [hemp]; cases l with
      | nil => exact absurd rfl hne
      | cons x r => rfl
    have v24 := zero25
    obtain ⟨Z, hZ⟩ : ∃ Z : Array Value, (adr false zeros).toArray = Z := ⟨_, rfl⟩
    rw [hZ] at v24
    have hz1 : Z.size = 17 := by rw [← hZ]; rfl
    have HSP := Lib.hid (fun w => split_ref l 58 hl w)
    have HP4 : Hid (∀ (p : List UInt8) (w : World), p.length ≤ l.length → Calls Tryz.prog 65 #[.string (bs p)] w fun e w' => e = .returned (.tuple #[.agg (adr false (quad (par 3 p))).toArray, .bool (isQ (par 3 p))]) ∧ Fr No w w') := fun p w h => pipv4_ref p (by omega) w
    have HPG := Lib.hid pgrp_ref
    have HGP : Hid (grpP last l = grpGo last (splitc 58 l)) := by show _ = _; rw [grpP, if_neg hne]
    have hnp := split_ne 58 l
    have HMEM : Hid (∀ p ∈ splitc 58 l, p.length ≤ l.length) := fun p hp => splitc_mem hp
    have hsl := splitc_len 58 l
    generalize bs l = s at he HSP ⊢
    generalize hps : splitc 58 l = ps at HSP HGP hnp HMEM hsl
    generalize hpl : ps.length = k at HSP hsl
    have hk31 : k ≤ 2147483648 := by omega
    have HPL := Lib.hid (And.intro hpl hnp)
    have hk0 : 0 < k := by rw [← hpl]; exact List.length_pos_iff.2 hnp
    have HZ := Lib.hid (And.intro hZ hz1)
    clear hemp hne hps hpl hnp hsl hl hZ
    go_enter Tryz.func66, Tryz.ntmps66
    have t3 := Tryz.underlying3
    have u3 := Tryz.runUnderlying3
    have g3 := Tryz.isAgg3
    have z3 := Tryz.sizeOf3
    have t4 := Tryz.underlying4
    have u4 := Tryz.runUnderlying4
    have g4 := Tryz.isAgg4
    have z4 := Tryz.sizeOf4
    have t5 := Tryz.underlying5
    have u5 := Tryz.runUnderlying5
    have g5 := Tryz.isAgg5
    have z5 := Tryz.sizeOf5
    have t9 := Tryz.underlying9
    have u9 := Tryz.runUnderlying9
    have g9 := Tryz.isAgg9
    have z9 := Tryz.sizeOf9
    have t23 := Tryz.underlying23
    have u23 := Tryz.runUnderlying23
    have g23 := Tryz.isAgg23
    have z23 := Tryz.sizeOf23
    have t25 := Tryz.underlying25
    have u25 := Tryz.runUnderlying25
    have g25 := Tryz.isAgg25
    have z25 := Tryz.sizeOf25
    have t57 := Tryz.underlying57
    have u57 := Tryz.runUnderlying57
    have g57 := Tryz.isAgg57
    have z57 := Tryz.sizeOf57
    have t105 := Tryz.underlying105
    have u105 := Tryz.runUnderlying105
    have g105 := Tryz.isAgg105
    have z105 := Tryz.sizeOf105
    have t109 := Tryz.underlying109
    have u109 := Tryz.runUnderlying109
    have g109 := Tryz.isAgg109
    have z109 := Tryz.sizeOf109
    have t82 := Tryz.underlying82
    have u82 := Tryz.runUnderlying82
    have g82 := Tryz.isAgg82
    have z82 := Tryz.sizeOf82
    have c43 := Tryz.call43
    have c65 := Tryz.call65
    have c83 := Tryz.call83
    have v109 := zero109
    have mixed : Tryz.prog.follows .mixedOrders = true := by kernel_rfl
    obtain ⟨k24, hk24⟩ : ∃ k, k = 17 := ⟨_, rfl⟩
    rw [← hk24] at z25
    have nk24 : ¬ k24 = 0 := by omega
    have HK25 := Lib.hid hk24
    have hP : Tryz.prog = PD := rfl
    rw [hP] at t3 u3 g3 z3 t4 u4 g4 z4 t5 u5 g5 z5 t9 u9 g9 z9 t23 u23 g23 z23 t25 u25 g25 z25 t57 u57 g57 z57 t105 u105 g105 z105 t109 u109 g109 z109 t82 u82 g82 z82 c43 c65 c83 v109 mixed v24 ⊢
    have HP := Lib.hid hP.symm
    clear hP hk24
    have hzk : Z.size = k24 := by rw [HK25.out]; exact hz1
    clear hz1
    go_wp2_with fail
    refine (at_prog HP.out (HSP.out w)).mono ?_
    rintro e w1 ⟨a, cap, rfl, hown, hf⟩
    have HW := Lib.hid (And.intro (At.own hown) hf)
    clear hown hf
    obtain ⟨p0, hp0⟩ : ∃ p0, ps[0]? = some p0 := ⟨_, List.getElem?_eq_getElem (by rw [HPL.out.1]; omega)⟩
    obtain ⟨ab, ao, rfl, -⟩ := strs_at (i := 0) HW.out.1 (by rw [List.getElem?_map, hp0]; rfl)
    clear hp0
    go_wp2_with fail
    go_loopg [6, 8] (k + 1) (fun g s6 s8 wr => ∃ (ar : Option Addr) (n cap2 i : Nat), s6 = .slice ar n cap2 ∧ s8 = .int .i64 i ∧ i ≤ k ∧ k - i < g ∧ n ≤ 2 * i ∧ Hid (∃ gs : List Nat, gs.length = n ∧ (i < k → grpP last l = (grpGo last (ps.drop i)).map fun t => gs ++ t) ∧ (i = k → grpP last l = some gs) ∧ wr.ownsRow w1.heap.size 109 1 (.slice ar n cap2) n (nums .u16 gs) ∧ Fr No w1 wr))
    case atStart =>
      refine ⟨none, 0, 0, 0, rfl, by go_num, by omega, by omega, by omega, [], rfl, fun _ => ?_, fun h => by omega, World.ownsRow_nil _ _ _ _, Fr.refl _ _⟩
      rw [HGP.out, List.drop_zero]
      cases grpGo last ps <;> rfl
    case round =>
      obtain ⟨ar, n, cap2, i, rfl, rfl, hik, hig, hn2, HR⟩ := hrel
      obtain ⟨gs, hgl, hlt, heq, hown, hfr⟩ := HR.out
      have q1 : (0 : Int) ≤ (i : Int) := by omega
      by_cases hi : i = k
      · subst hi
        have HV := Lib.hid (And.intro (heq rfl) (And.intro hgl (And.intro (row_base hown HW.out.2.size) (HW.out.2.trans hfr))))
        clear hlt heq hgl hown hfr HR
        go_wp2_with fail
        go_ret2
        exact ⟨.inl ⟨gs, ar, n, cap2, HV.out.1, HV.out.2.1, rfl, HV.out.2.2.1⟩, HV.out.2.2.2⟩
      · have q2 : (i : Int) < (k : Int) := by omega
        obtain ⟨p, hp⟩ : ∃ p, ps[i]? = some p := ⟨_, List.getElem?_eq_getElem (by rw [HPL.out.1]; omega)⟩
        have hdrop : ps.drop i = p :: ps.drop (i + 1) := by
          obtain ⟨h1, e1⟩ := List.getElem?_eq_some_iff.1 hp
          rw [List.drop_eq_getElem_cons h1, e1]
        have HC : Hid (∀ w', Fr No w1 w' → w'.cell? ⟨ab, ao + i, none⟩ = some (.string (bs p))) := fun w' hf => by
          obtain ⟨b', o', he, hc⟩ := strs_at (i := i) (HW.out.1.frNo hf) (by rw [List.getElem?_map, hp]; rfl)
          cases he
          exact hc
        have c1 := HC.out wr hfr
        have hpm := HMEM.out p (List.mem_of_getElem? hp)
        have hpar4 := par_length 3 p
        have hparb := par_lt 3 p
        have HH := Lib.hid (And.intro hgl (And.intro (hlt (by omega)) (And.intro hown (And.intro hfr (And.intro hdrop (And.intro hpm (And.intro hpar4 hparb)))))))
        clear hgl hlt heq hown hfr hdrop hp hpm hpar4 hparb HR
        go_wp2_with fail
        refine (at_prog HP.out (HP4.out p wr HH.out.2.2.2.2.2.1)).mono ?_
        rintro e w3 ⟨rfl, hf3⟩
        have HQB : Hid (Bytes (quad (par 3 p))) := by
          cases hq : par 3 p with
          | none => exact zeros_bytes
          | some xs =>
            obtain ⟨a, b, c, d, rfl, ha, hb, hc, hd⟩ := two_quad (HH.out.2.2.2.2.2.2.1 xs hq) (HH.out.2.2.2.2.2.2.2 xs hq)
            exact v4_bytes ha hb hc hd
        have hA17 : (adr false (quad (par 3 p))).toArray.size = 17 := by rw [List.size_toArray, adr_length, HQB.out.1]
        obtain ⟨y, hst, hyb, hyf⟩ := store_all (P := PD) (adr false (quad (par 3 p))).toArray.toList (heap_alloc_new w3 (.cells Z 25)) (by rw [Array.length_toList, hA17, HZ.out.2]) (adr_one _ _)
        have hsk : (adr false (quad (par 3 p))).toArray.size = k24 := by rw [HK25.out]; exact hA17
        have HY : Hid (Fr No wr y ∧ y.heap[w3.heap.size]? = some (.cells (adr false (quad (par 3 p))).toArray 25 (0, 0))) := ⟨(hf3.trans (Fr.alloc No w3 (.cells Z 25))).ofNew hyf fun k hk => .inr (by rw [hk]; exact hf3.size), by simpa using hyb⟩
        have HY2 : Hid (y.ownsRow w1.heap.size 109 1 (.slice ar n cap2) n (nums .u16 gs) ∧ Fr No w1 y ∧ w1.heap.size ≤ y.heap.size) := ⟨row_frNo HH.out.2.2.1 HY.out.1, HH.out.2.2.2.1.trans HY.out.1, (HH.out.2.2.2.1.trans HY.out.1).size⟩
        clear hyb hyf hf3 hA17
        have cy := HC.out y HY2.out.2.1
        generalize hAA : (adr false (quad (par 3 p))).toArray = A at hst hsk HY ⊢
        have HAA := Lib.hid hAA
        clear hAA
        by_cases h4 : isQ (par 3 p) = true ∧ last = true ∧ i + 1 = k
        · obtain ⟨ho, rfl, hik1⟩ := h4
          obtain ⟨xs, hxs⟩ : ∃ xs, par 3 p = some xs := by
            cases hq : par 3 p with
            | none => rw [hq] at ho; cases ho
            | some xs => exact ⟨xs, rfl⟩
          obtain ⟨b0, b1, b2, b3, rfl, l0, l1, l2, l3⟩ := two_quad (HH.out.2.2.2.2.2.2.1 xs hxs) (HH.out.2.2.2.2.2.2.2 xs hxs)
          have HG : Hid (grpP true l = some (gs ++ [b0 * 256 + b1, b2 * 256 + b3])) := by
            show _ = _
            rw [HH.out.2.1, HH.out.2.2.2.2.1, List.drop_of_length_le (by rw [HPL.out.1]; omega), grpGo_one, if_pos rfl, hxs]
            rfl
          have e0 : A = (adr false (quad (some [b0, b1, b2, b3]))).toArray := by rw [← HAA.out, hxs]
          have HB := HY.out.2
          rw [e0] at HB
          have k0 : y.cell? ⟨w3.heap.size, 1, none⟩ = some (.int .u8 b0) := by rw [cell_of_row _ _ _ _ _ _ HB]; rfl
          have k1 : y.cell? ⟨w3.heap.size, 1 + 1, none⟩ = some (.int .u8 b1) := by rw [cell_of_row _ _ _ _ _ _ HB]; rfl
          have k2 : y.cell? ⟨w3.heap.size, 1 + 2, none⟩ = some (.int .u8 b2) := by rw [cell_of_row _ _ _ _ _ _ HB]; rfl
          have k3 : y.cell? ⟨w3.heap.size, 1 + 3, none⟩ = some (.int .u8 b3) := by rw [cell_of_row _ _ _ _ _ _ HB]; rfl
          have o1 := or_group' l0 l1
          have o2 := or_group' l2 l3
          have p1 : (i : Int) = (k : Int) - 1 := by omega
          clear hxs e0 HB
          rw [ho]
          clear ho
          have hbk := heap_alloc_new y (.cells #[.int .u16 ((b0 * 256 + b1 : Nat) : Int), .int .u16 ((b2 * 256 + b3 : Nat) : Int)] 109)
          have hbf := Fr.alloc No y (.cells #[.int .u16 ((b0 * 256 + b1 : Nat) : Int), .int .u16 ((b2 * 256 + b3 : Nat) : Int)] 109)
          have HB := Lib.hid (And.intro hbk hbf)
          clear hbk hbf
          have hc1 : ((b0 * 256 + b1 : Nat) : Int) = (b0 : Int) * 256 + (b1 : Int) := by omega
          have hc2 : ((b2 * 256 + b3 : Nat) : Int) = (b2 : Int) * 256 + (b3 : Int) := by omega
          rw [hc1, hc2] at HB
          have HC12 := Lib.hid (And.intro hc1 hc2)
          clear hc1 hc2
          go_wp2_with (first | (at_builtin; go_loud (refine wpList_append_vals el16 rfl (.tmp 41) (.tmp 62) rfl w1.heap.size _ n _ rfl (row_frNo HY2.out.1 HB.out.2) (some ⟨y.heap.size, 0, none⟩) 2 2 (nums .u16 [b0 * 256 + b1, b2 * 256 + b3]) rfl (nums_one _ _) rfl (by have h := HB.out.1; rw [← HC12.out.1, ← HC12.out.2] at h ⊢; exact At.block h) (fun h => by cases h) (by unfold maxLen; omega) (by omega) (Nat.le_trans HY2.out.2.2 HB.out.2.size) ?_; intro a6 c6 w6 hown6 hg6' hat6; have H6 : Hid (w6.ownsRow w1.heap.size 109 1 (.slice a6 (n + 2) c6) (n + 2) (nums .u16 (gs ++ [b0 * 256 + b1, b2 * 256 + b3])) ∧ Fr No w1 w6) := ⟨(by rw [nums_append]; exact hown6), (HY2.out.2.1.trans HB.out.2).own_grown (row_frNo HY2.out.1 HB.out.2) (Nat.le_refl _) hg6'⟩; clear hown6 hg6' hat6)) | fail)
          go_roundg (k - i)
          case measure => exact hig
          case rel => exact ⟨a6, n + 2, c6, i + 1, rfl, congrArg (Value.int .i64) (by omega), by omega, by omega, by omega, gs ++ [b0 * 256 + b1, b2 * 256 + b3], by rw [List.length_append, HH.out.1]; rfl, fun h => by omega, fun _ => HG.out, H6.out.1, H6.out.2⟩
        · have HN : Hid ((hexV p = none → grpP last l = none) ∧ ∀ g, hexV p = some g → (i + 1 < k → grpP last l = (grpGo last (ps.drop (i + 1))).map fun t => (gs ++ [g]) ++ t) ∧ (i + 1 = k → grpP last l = some (gs ++ [g]))) := by
            have h0 := HH.out.2.1
            rw [HH.out.2.2.2.2.1] at h0
            by_cases hik1 : i + 1 = k
            · rw [List.drop_of_length_le (l := ps) (by rw [HPL.out.1]; omega), grpGo_one] at h0
              have hc : (if last = true then par 3 p else none) = none := by
                by_cases hla : last = true
                · rw [if_pos hla]
                  cases hq : par 3 p with
                  | none => rfl
                  | some xs => exact absurd ⟨by rw [hq]; rfl, hla, hik1⟩ h4
                · rw [if_neg hla]
              rw [hc] at h0
              refine ⟨fun hg => by rw [h0, hg]; rfl, fun g hg => ⟨fun h => by omega, fun _ => by rw [h0, hg]; rfl⟩⟩
            · have hlt : i + 1 < k := by omega
              have hdn : ps.drop (i + 1) ≠ [] := fun e => by
                have := congrArg List.length e
                rw [List.length_drop, HPL.out.1] at this
                simp at this
                omega
              rw [grpGo_more last p hdn] at h0
              refine ⟨fun hg => by rw [h0, hg]; rfl, fun g hg => ⟨fun _ => ?_, fun h => by omega⟩⟩
              rw [h0, hg]
              cases grpGo last (ps.drop (i + 1)) with
              | none => rfl
              | some t => simp
          have hcase : isQ (par 3 p) = false ∨ (isQ (par 3 p) = true ∧ last = false) ∨ (isQ (par 3 p) = true ∧ last = true ∧ ¬ (i : Int) = (k : Int) - 1) := by
            cases hq : isQ (par 3 p) with
            | false => exact .inl rfl
            | true =>
              cases hla : last with
              | false => exact .inr (.inl ⟨rfl, rfl⟩)
              | true => exact .inr (.inr ⟨rfl, rfl, fun e => h4 ⟨hq, hla, by omega⟩⟩)
          clear h4
          have HLT : Hid (∀ u, hexV p = some u → u < 65536) := fun u hu => hexV_lt hu
          rcases hcase with ho | ⟨ho, hla⟩ | ⟨ho, hla, hne⟩
          all_goals (
            rw [ho]
            clear ho
            try subst hla
            go_wp2_with fail
            refine (at_prog HP.out (HPG.out p y)).mono ?_
            rintro e y2 ⟨rfl, rfl⟩
            cases hg : hexV p with
            | none =>
              have HV := Lib.hid (And.intro (HN.out.1 hg) (HW.out.2.trans HY2.out.2.1))
              have hneg : decI none < 0 := by decide
              clear hg
              go_wp2_with fail
              go_ret2
              exact ⟨.inr ⟨HV.out.1, rfl⟩, HV.out.2⟩
            | some g =>
              have hneg : ¬ decI (some g) < 0 := by show ¬ (g : Int) < 0; omega
              have hg6 := HLT.out g hg
              have hw16 : IntKind.u16.wrap (decI (some g)) = (g : Int) := by show IntKind.u16.wrap (g : Int) = _; simp [IntKind.wrap, IntKind.bits, IntKind.signed]; omega
              have HV := Lib.hid (HN.out.2 g hg)
              clear hg
              generalize decI (some g) = dg at hneg hw16 ⊢
              have hbk := heap_alloc_new y2 (.cells #[.int .u16 g] 109)
              have hbf := Fr.alloc No y2 (.cells #[.int .u16 g] 109)
              have HB := Lib.hid (And.intro hbk hbf)
              clear hbk hbf
              go_wp2_with (first | (at_builtin; go_loud (refine wpList_append_vals el16 rfl (.tmp 71) (.tmp 74) rfl w1.heap.size _ n _ rfl (row_frNo HY2.out.1 HB.out.2) (some ⟨y2.heap.size, 0, none⟩) 1 1 (nums .u16 [g]) rfl (nums_one _ _) rfl (At.block HB.out.1) (fun h => by cases h) (by unfold maxLen; omega) (by omega) (Nat.le_trans HY2.out.2.2 HB.out.2.size) ?_; intro a6 c6 w6 hown6 hg6' hat6; have H6 : Hid (w6.ownsRow w1.heap.size 109 1 (.slice a6 (n + 1) c6) (n + 1) (nums .u16 (gs ++ [g])) ∧ Fr No w1 w6) := ⟨(by rw [nums_append]; exact hown6), (HY2.out.2.1.trans HB.out.2).own_grown (row_frNo HY2.out.1 HB.out.2) (Nat.le_refl _) hg6'⟩; clear hown6 hg6' hat6)) | fail)
              go_roundg (k - i)
              case measure => exact hig
              case rel => exact ⟨a6, n + 1, c6, i + 1, rfl, by go_num, by omega, by omega, by omega, gs ++ [g], by rw [List.length_append, HH.out.1]; rfl, HV.out.1, HV.out.2, H6.out.1, H6.out.2⟩)
end Go.Proofs.YtnadendhboiliaaGreat
namespace Go.Proofs.YtnadendhboiliaaGreat
open Go.ChangeShapes Go.WideShapes Go.ChangeAt Go.RowKit
set_option linter.unusedVariables false

theorem two_pre (x : UInt8) (l : List UInt8) : [58, 58].isPrefixOf (x :: l) = true ↔ x = 58 ∧ l[0]? = some 58 := by
  cases l with
  | nil => simp [List.isPrefixOf]
  | cons y r =>
    simp [List.isPrefixOf]
    constructor
    · rintro ⟨h1, h2⟩; exact ⟨h1.symm, h2.symm⟩
    · rintro ⟨h1, h2⟩; exact ⟨h1.symm, h2.symm⟩
theorem cut2_no : ∀ {l : List UInt8}, (∀ j : Nat, l[j]? = some (58 : UInt8) → l[j + 1]? = some (58 : UInt8) → False) → cut2 l = none
  | [], _ => rfl
  | x :: l, h => by
    rw [cut2, if_neg, cut2_no (l := l) (fun j h1 h2 => h (j + 1) (by simpa using h1) (by simpa using h2))]
    · rfl
    · intro hp
      obtain ⟨rfl, h1⟩ := (two_pre x l).1 hp
      exact h 0 rfl (by simpa using h1)
theorem cut2_hit : ∀ {l : List UInt8} {i : Nat}, (∀ j : Nat, j < i → l[j]? = some (58 : UInt8) → l[j + 1]? = some (58 : UInt8) → False) → l[i]? = some 58 → l[i + 1]? = some 58 → cut2 l = some (l.take i, l.drop (i + 2))
  | [], i, _, h1, _ => by simp at h1
  | x :: l, 0, _, h1, h2 => by
    have hx : x = 58 := by simpa using h1
    rw [cut2, if_pos ((two_pre x l).2 ⟨hx, by simpa using h2⟩)]
    rfl
  | x :: l, i + 1, h, h1, h2 => by
    rw [cut2, if_neg, cut2_hit (l := l) (i := i) (fun j hj h3 h4 => h (j + 1) (by omega) (by simpa using h3) (by simpa using h4)) (by simpa using h1) (by simpa using h2)]
    · rfl
    · intro hp
      obtain ⟨rfl, h3⟩ := (two_pre x l).1 hp
      exact h 0 (by omega) rfl (by simpa using h3)

theorem no_colon {l : List UInt8} (h : l.contains 58 = false) : ∀ x ∈ l, x ≠ 58 := by
  intro x hx e
  subst e
  have : l.contains 58 = true := by simpa using hx
  rw [this] at h
  cases h
/-- Without the two colons, and no IPv4 address. -/
theorem parse_plain {l : List UInt8} (h4 : par 3 l = none) (h2 : cut2 l = none) : parseS l = (eight (grpP true l)).map fun gs => (true, pack gs) := by
  cases hc : l.contains 58 with
  | true => rw [parseS, if_pos hc, parse6, h2]
  | false =>
    rw [parseS, hc, if_neg (by decide), h4]
    have : eight (grpP true l) = none := by
      unfold grpP
      split
      · rfl
      · rw [splitc_none (no_colon hc), grpGo_one, if_pos rfl, h4]
        show eight ((hexV l).map _) = none
        cases hexV l <;> rfl
    rw [this]; rfl
theorem parse_cut {l a b : List UInt8} (h2 : cut2 l = some (a, b)) : parseS l = (fill (grpP false a) (grpP true b)).map fun gs => (true, pack gs) := by
  have hc : l.contains 58 = true := by
    have : ∀ {l a b : List UInt8}, cut2 l = some (a, b) → (58 : UInt8) ∈ l := by
      intro l
      induction l with
      | nil => intro a b h; cases h
      | cons x l ih =>
        intro a b h
        rw [cut2] at h
        split at h
        · rename_i hp
          rw [((two_pre x l).1 hp).1]; simp
        · obtain ⟨p, hp, _⟩ := Option.map_eq_some_iff.1 h
          exact List.mem_cons_of_mem _ (ih (a := p.1) (b := p.2) hp)
    simpa using this h2
  rw [parseS, if_pos hc, parse6, h2]

theorem own_other {o o6 : Option Nat} {ws wr w4 b : Nat} (h : o6 = o ∨ o6 = some ws) (ho : o ≠ some b) (hb : b < w4) (hs : ws = wr + 1) (hw : w4 ≤ wr) : o6 ≠ some b := by
  rcases h with h | h
  · rw [h]; exact ho
  · rw [h]; intro e; have := Option.some.inj e; omega
theorem grpGo_length (last : Bool) : ∀ (ps : List (List UInt8)) (gs : List Nat), grpGo last ps = some gs → gs.length ≤ ps.length + 1
  | [], gs, h => by rw [grpGo] at h; cases h; simp
  | [p], gs, h => by
    rw [grpGo_one] at h
    split at h
    · rename_i xs hx
      cases h
      have := two_length xs
      simp; omega
    · obtain ⟨x, hx, rfl⟩ := Option.map_eq_some_iff.1 h
      simp
  | p :: q :: r, gs, h => by
    rw [grpGo_more last p (by simp)] at h
    split at h
    · rename_i hr
      cases h
      have := grpGo_length last (q :: r) _ hr
      simp at this ⊢
      omega
    · cases h
theorem grpP_length {last : Bool} {l : List UInt8} {gs : List Nat} (h : grpP last l = some gs) : gs.length ≤ l.length + 2 := by
  unfold grpP at h
  split at h
  · cases h; simp
  · have := grpGo_length last _ _ h
    have := splitc_len 58 l
    omega
theorem fill_eight {l : List UInt8} {gs : List Nat} {n : Nat} (h : parseS l = (eight (grpP true l)).map fun gs => (true, pack gs)) (hg : grpP true l = some gs) (hn : gs.length = n) : adr (decide (n = 8)) (v6Of gs) = adr (resB (parseS l)) (resX (parseS l)) ∧ decide (n = 8) = (parseS l).isSome := by
  rw [h, hg]
  subst hn
  by_cases h8 : gs.length = 8
  · simp [eight, h8, v6Of, resB, resX]
  · simp [eight, h8, v6Of, resB, resX]

set_option maxHeartbeats 8000000 in
set_option maxRecDepth 100000 in
theorem parse_ref (l : List UInt8) (hl : l.length < 2147483648) (w : World) :
    Calls Tryz.prog 44 #[.string (bs l)] w fun e w' => e = .returned (.tuple #[.agg (adr (resB (parseS l)) (resX (parseS l))).toArray, .bool (parseS l).isSome]) ∧ Fr No w w' := by
  have v24 := zero25
  obtain ⟨Z, hZ⟩ : ∃ Z : Array Value, (adr false zeros).toArray = Z := ⟨_, rfl⟩
  rw [hZ] at v24
  have hz1 : Z.size = 17 ∧ ∀ u ∈ Z.toList, u.oneCell' = true := ⟨by rw [← hZ]; rfl, by rw [← hZ]; exact adr_one _ _⟩
  have hb0 := heap_alloc_new w (.cells Z 25)
  have hF0 := Fr.alloc No w (.cells Z 25)
  generalize hw0 : w.alloc (.cells Z 25) = w0 at hb0 hF0
  obtain ⟨n, hn⟩ : ∃ n, w.heap.size = n := ⟨_, rfl⟩
  rw [hn] at hb0
  have HN := Lib.hid (And.intro hn (And.intro hF0 hb0))
  have HP4 := Lib.hid (fun w => pipv4_ref l hl w)
  have HPG : Hid (∀ (p : List UInt8) (last : Bool) (w : World), p.length ≤ l.length → Calls Tryz.prog 66 #[.string (bs p), .bool last] w fun e w' => GrpQ w w' (grpP last p) e ∧ Fr No w w') := fun p last w h => pgrps_ref p last (by omega) w
  have HPS := Lib.hid (HPG.out l true · (Nat.le_refl _))
  have HEX : Hid (∀ a b : Nat, (bs l).extract a b = bs ((l.drop a).take (b - a))) := fun a b => bs_extract l a b
  have HIX : Hid (∀ (i : Nat) (x : UInt8) (w : World), l[i]? = some x → Sem.run PD (Instr.index 9 (.string (bs l)) (.int .i64 i)) w = .ok (.int .u8 (x.toNat : Int)) w) := fun i x w h => bs_index h w
  have HZ := Lib.hid (And.intro hZ hz1)
  have hsz : (bs l).size = l.length := rfl
  generalize hs : bs l = s at HP4 HPS HEX HIX hsz ⊢
  have HS := Lib.hid hs
  have hl31 := hl
  generalize hln : l.length = ln at hsz hl31
  have HLN := Lib.hid hln
  clear hb0 hF0 hZ hs hln hl
  go_enter Tryz.func44, Tryz.ntmps44
  have t3 := Tryz.underlying3
  have u3 := Tryz.runUnderlying3
  have g3 := Tryz.isAgg3
  have z3 := Tryz.sizeOf3
  have t4 := Tryz.underlying4
  have u4 := Tryz.runUnderlying4
  have g4 := Tryz.isAgg4
  have z4 := Tryz.sizeOf4
  have t5 := Tryz.underlying5
  have u5 := Tryz.runUnderlying5
  have g5 := Tryz.isAgg5
  have z5 := Tryz.sizeOf5
  have t9 := Tryz.underlying9
  have u9 := Tryz.runUnderlying9
  have g9 := Tryz.isAgg9
  have z9 := Tryz.sizeOf9
  have t23 := Tryz.underlying23
  have u23 := Tryz.runUnderlying23
  have g23 := Tryz.isAgg23
  have z23 := Tryz.sizeOf23
  have t25 := Tryz.underlying25
  have u25 := Tryz.runUnderlying25
  have g25 := Tryz.isAgg25
  have z25 := Tryz.sizeOf25
  have t105 := Tryz.underlying105
  have u105 := Tryz.runUnderlying105
  have g105 := Tryz.isAgg105
  have z105 := Tryz.sizeOf105
  have t109 := Tryz.underlying109
  have u109 := Tryz.runUnderlying109
  have g109 := Tryz.isAgg109
  have z109 := Tryz.sizeOf109
  have c65 := Tryz.call65
  have c66 := Tryz.call66
  have c67 := Tryz.call67
  have v109 := zero109
  have mixed : Tryz.prog.follows .mixedOrders = true := by kernel_rfl
  obtain ⟨k24, hk24⟩ : ∃ k, k = 17 := ⟨_, rfl⟩
  rw [← hk24] at z25
  have nk24 : ¬ k24 = 0 := by omega
  have HK25 := Lib.hid hk24
  have hP : Tryz.prog = PD := rfl
  rw [hP] at t3 u3 g3 z3 t4 u4 g4 z4 t5 u5 g5 z5 t9 u9 g9 z9 t23 u23 g23 z23 t25 u25 g25 z25 t105 u105 g105 z105 t109 u109 g109 z109 c65 c66 c67 v109 mixed v24 ⊢
  have HP := Lib.hid hP.symm
  clear hP hk24
  have hzk : Z.size = k24 := by rw [HK25.out]; exact hz1.1
  clear hz1
  go_wp2_with fail
  clear hw0 hn
  refine (at_prog HP.out (HP4.out w0)).mono ?_
  rintro e w1 ⟨rfl, hf⟩
  have HQB : Hid (Bytes (quad (par 3 l))) := by
    cases hq : par 3 l with
    | none => exact zeros_bytes
    | some xs =>
      obtain ⟨a, b, c, d, rfl, ha, hb, hc, hd⟩ := two_quad (par_length 3 l xs hq) (par_lt 3 l xs hq)
      exact v4_bytes ha hb hc hd
  have hA17 : (adr false (quad (par 3 l))).toArray.size = 17 := by rw [List.size_toArray, adr_length, HQB.out.1]
  have HA17 := Lib.hid hA17
  obtain ⟨y, hst, hyb, hyf⟩ := store_all (P := PD) (adr false (quad (par 3 l))).toArray.toList (heap_alloc_new w1 (.cells Z 25)) (by rw [Array.length_toList, hA17, HZ.out.2.1]) (adr_one _ _)
  have hsk : (adr false (quad (par 3 l))).toArray.size = k24 := by rw [HK25.out]; exact hA17
  have HY : Hid (Fr No w y ∧ y.heap[n]? = some (.cells Z 25 (0, 0)) ∧ y.heap[w1.heap.size]? = some (.cells (adr false (quad (par 3 l))).toArray 25 (0, 0))) := by
    have h1 := hf.keep HN.out.2.2
    have hlt := (Array.getElem?_eq_some_iff.1 h1).1
    have h2 := (hf.trans (Fr.alloc No w1 (.cells Z 25))).keep HN.out.2.2
    refine ⟨((HN.out.2.1.trans hf).trans (Fr.alloc No w1 (.cells Z 25))).ofNew hyf fun k hk => .inr ?_, ?_, by simpa using hyb⟩
    · rw [hk]; exact Nat.le_trans HN.out.2.1.size hf.size
    · exact (hyf.block _ (Array.getElem?_eq_some_iff.1 h2).1 (by omega)).trans h2
  have HSTO : Hid (∀ (V : List Value) (w3 : World), V.length = 17 → (∀ u ∈ V, u.oneCell' = true) → Fr No y w3 → ∃ y', Sem.run PD (storeCells ⟨n, 0, none⟩ V 0) w3 = .ok () y' ∧ y'.heap[n]? = some (.cells V.toArray 25 (0, 0)) ∧ Fr No w y') := fun V w3 hv h1 hf => by
    obtain ⟨y', h2, h3, h4⟩ := store_all (P := PD) V (hf.keep HY.out.2.1) (by rw [hv, HZ.out.2.1]) h1
    exact ⟨y', h2, h3, (HY.out.1.trans hf).ofNew h4 fun k hk => .inr (by rw [hk, HN.out.1]; exact Nat.le_refl _)⟩
  have FAIL : Hid (parseS l = none → ∀ w3, Fr No y w3 → ∃ y', Sem.run PD (storeCells ⟨n, 0, none⟩ Z.toList 0) w3 = .ok () y' ∧ y'.heap[n]? = some (.cells (adr (resB (parseS l)) (resX (parseS l))).toArray 25 (0, 0)) ∧ Fr No w y' ∧ (parseS l).isSome = false) := fun hp w3 hf => by
    obtain ⟨y', h1, h2, h3⟩ := HSTO.out Z.toList w3 (by rw [Array.length_toList]; exact HZ.out.2.1) HZ.out.2.2 hf
    refine ⟨y', h1, ?_, h3, by rw [hp]; rfl⟩
    rw [h2, hp, show (adr (resB none) (resX none)).toArray = Z from HZ.out.1]
  have HRL : Hid ((adr (resB (parseS l)) (resX (parseS l))).length = 17) := by show _ = _; rw [adr_length, (resX_bytes l).1]
  clear hf hyb hyf hA17
  generalize hAA : (adr false (quad (par 3 l))).toArray = A at hst hsk HY ⊢
  have HAA := Lib.hid hAA
  clear hAA
  cases h4 : par 3 l with
  | some xs =>
    have HR : Hid (parseS l = some (false, quad (some xs))) := by
      show _ = _
      obtain ⟨a, b, c, d, rfl, -⟩ := two_quad (par_length 3 l xs h4) (par_lt 3 l xs h4)
      rw [parseS, par_colon h4, if_neg (by decide), h4]; rfl
    have hAe : A = (adr false (quad (some xs))).toArray := by rw [← HAA.out, h4]
    obtain ⟨y', hs2, hb2, hf2⟩ := HSTO.out A.toList y (by rw [Array.length_toList, ← HAA.out]; exact HA17.out) (by rw [← HAA.out]; exact adr_one _ _) (Fr.refl _ _)
    have hl2 : Sem.run PD (loadCellsFrom ⟨w1.heap.size, 0, none⟩ 0 k24 #[]) y = .ok A y := by rw [HK25.out]; exact load_block HY.out.2.2 (by rw [← HAA.out]; exact HA17.out) (fun j v hv => by simpa using hv)
    have HB2 : Hid (y'.heap[n]? = some (.cells (adr (resB (parseS l)) (resX (parseS l))).toArray 25 (0, 0)) ∧ Fr No w y' ∧ (parseS l).isSome = true) := by
      refine ⟨?_, hf2, by rw [HR.out]; rfl⟩
      rw [hb2, HR.out]
      show some (Obj.cells A.toList.toArray 25 (0, 0)) = some (Obj.cells (adr false (quad (some xs))).toArray 25 (0, 0))
      rw [← hAe]
    clear hb2 hf2 h4 hAe
    simp only [isQ]
    go_wp2_with fail
    refine bodyPost_ret_by (results_agg_tmp rfl _ (b := n) (k := 17) (cs := (adr (resB (parseS l)) (resX (parseS l))).toArray) (Tryz.isAgg25 _) (Tryz.sizeOf25 _) rfl (load_all HB2.out.1 HRL.out)) rfl ?_
    exact ⟨by rw [HB2.out.2.2]; rfl, HB2.out.2.1⟩
  | none =>
    simp only [isQ]
    have HH4 := Lib.hid h4
    clear h4
    go_wp2_with fail
    clear hst
    go_loopg [6, 7] (ln + 1) (fun g s6 s7 wr => ∃ i : Nat, s6 = .int .i64 (-1) ∧ s7 = .int .i64 i ∧ i ≤ ln ∧ ln - i < g ∧ Hid (wr = y ∧ ∀ j : Nat, j < i → l[j]? = some 58 → l[j + 1]? = some 58 → False))
    case atStart => exact ⟨0, rfl, by go_num, by omega, by omega, rfl, fun j hj => by omega⟩
    case round =>
      obtain ⟨i, rfl, rfl, hil, hig, HR⟩ := hrel
      obtain ⟨hw, hno⟩ := HR.out
      have hw' := hw.symm
      subst hw'
      clear hw HR
      have q1 : (0 : Int) ≤ (i : Int) := by omega
      by_cases hi : i + 1 < ln
      · obtain ⟨c, hc⟩ : ∃ c, l[i]? = some c := ⟨_, List.getElem?_eq_getElem (by rw [HLN.out]; omega)⟩
        obtain ⟨d, hd⟩ : ∃ d, l[i + 1]? = some d := ⟨_, List.getElem?_eq_getElem (by rw [HLN.out]; omega)⟩
        have hix := HIX.out i c y hc
        have hix1 := HIX.out (i + 1) d y hd
        have hcast : ((i + 1 : Nat) : Int) = (i : Int) + 1 := by omega
        rw [hcast] at hix1
        have q2 : (i : Int) + 1 < (ln : Int) := by omega
        by_cases hcd : c = 58 ∧ d = 58
        · obtain ⟨rfl, rfl⟩ := hcd
          have hc2 := cut2_hit hno hc hd
          have HR : Hid (parseS l = (fill (grpP false (l.take i)) (grpP true (l.drop (i + 2)))).map fun gs => (true, pack gs)) := parse_cut hc2
          have HPA : Hid (∀ w, Calls Tryz.prog 66 #[.string (s.extract 0 i), .bool false] w fun e w' => GrpQ w w' (grpP false (l.take i)) e ∧ Fr No w w') := fun w => by
            rw [HEX.out 0 i, List.drop_zero, Nat.sub_zero]
            exact HPG.out (l.take i) false w (by rw [List.length_take]; omega)
          have HPB : Hid (∀ w, Calls Tryz.prog 66 #[.string (s.extract (i + 2) ln), .bool true] w fun e w' => GrpQ w w' (grpP true (l.drop (i + 2))) e ∧ Fr No w w') := fun w => by
            rw [HEX.out (i + 2) ln, List.take_of_length_le (by rw [List.length_drop, HLN.out]; exact Nat.le_refl _)]
            exact HPG.out (l.drop (i + 2)) true w (by rw [List.length_drop]; omega)
          have q3 : (0 : Int) ≤ (i : Int) + 2 := by omega
          have q4 : (i : Int) + 2 ≤ (ln : Int) := by omega
          have q5 : (i : Int) ≤ (ln : Int) := by omega
          have q6 : ¬ (i : Int) < 0 := by omega
          clear hc hd hno hc2
          go_wp2_with fail
          refine (at_prog HP.out (HPA.out y)).mono ?_
          rintro e w3 ⟨hg3, hf3⟩
          have H3 := Lib.hid (And.intro hg3 hf3)
          rcases hg3 with ⟨gs1, a1, n1, c1, hgs1, hgl1, rfl, hown1⟩ | ⟨hgs1, rfl⟩
          · clear H3
            have H3 := Lib.hid (And.intro hgs1 (And.intro hgl1 (And.intro hown1 hf3)))
            clear hgs1 hgl1 hown1 hf3
            go_wp2_with fail
            refine (at_prog HP.out (HPB.out w3)).mono ?_
            rintro e w4 ⟨⟨gs2, a2, n2, c2, hgs2, hgl2, rfl, hown2⟩ | ⟨hgs2, rfl⟩, hf4⟩
            · have HFILL : Hid (parseS l = if n1 + n2 ≤ 7 then some (true, pack (gs1 ++ (List.replicate (8 - n1 - n2) 0 ++ gs2))) else none) := by
                show _ = _
                rw [HR.out, H3.out.1, hgs2]
                show ((if gs1.length + gs2.length ≤ 7 then some (gs1 ++ (List.replicate (8 - gs1.length - gs2.length) 0 ++ gs2)) else none) : Option (List Nat)).map _ = _
                rw [H3.out.2.1, hgl2]
                split <;> rfl
              have b1 : n1 ≤ 2147483700 := by
                have h1 := grpP_length H3.out.1
                rw [H3.out.2.1, List.length_take] at h1
                have := Nat.min_le_left i l.length
                omega
              have b2 : n2 ≤ 2147483700 := by
                have h1 := grpP_length hgs2
                rw [hgl2, List.length_drop, HLN.out] at h1
                omega
              by_cases h7 : n1 + n2 ≤ 7
              · have p7 : ¬ (7 : Int) < (n1 : Int) + (n2 : Int) := by omega
                have H4 := Lib.hid (And.intro (row_At hown2) (And.intro hgl2 (And.intro (grpP_lt hgs2) (And.intro (H3.out.2.2.2.trans hf4) (And.intro (row_frNo H3.out.2.2.1 hf4) (And.intro (fun k hk => (H3.out.2.2.1.lt k hk).2) (fun ad (had : a2 = some ad) => by
                  obtain ⟨a', c', he, -, -, hb⟩ := row_any hown2
                  cases he
                  have hl0 : ad.block < w4.heap.size := by
                    rcases hown2.2 with ⟨hv, -⟩ | ⟨g, cap, cur, hv, -, hg, -⟩
                    · cases hv; cases had
                    · cases hv; cases had; exact (Array.getElem?_eq_some_iff.1 hg).1
                  exact And.intro (hb ad had) hl0)))))))
                clear hgs2 hgl2 hown2 hf4
                go_wp2_with fail
                go_loopg [10] 9 (fun g s10 wr => ∃ (a : Option Addr) (c j : Nat), s10 = .slice a (n1 + j) c ∧ n1 + j + n2 ≤ 8 ∧ 8 - (n1 + j + n2) < g ∧ Hid (wr.ownsRow y.heap.size 109 1 (.slice a (n1 + j) c) (n1 + j) (nums .u16 (gs1 ++ List.replicate j 0)) ∧ Fr No y wr ∧ At wr a2 (nums .u16 gs2) ∧ w4.heap.size ≤ wr.heap.size ∧ ∀ ad, a2 = some ad → (Value.slice a (n1 + j) c).ownBlock ≠ some ad.block))
                case atStart =>
                  refine ⟨a1, c1, 0, rfl, by omega, by omega, ?_, H4.out.2.2.2.1, H4.out.1.1, Nat.le_refl _, fun ad had hk => ?_⟩
                  · rw [List.replicate_zero, List.append_nil]; exact H4.out.2.2.2.2.1
                  · have h1 := H4.out.2.2.2.2.2.1 _ hk
                    have h2 := (H4.out.2.2.2.2.2.2 ad had).1
                    omega
                case round =>
                  obtain ⟨a, c, j, rfl, hj8, hjg, HJ⟩ := hrel
                  have hwj : ((n1 + j : Nat) : Int) = (n1 : Int) + (j : Int) := by omega
                  by_cases hj : n1 + j + n2 = 8
                  · have hP : parseS l = some (true, pack (gs1 ++ List.replicate j 0 ++ gs2)) := by
                      rw [HFILL.out, if_pos h7, show 8 - n1 - n2 = j by omega, List.append_assoc]
                    have hLEN : (gs1 ++ List.replicate j 0 ++ gs2).length = 8 := by
                      rw [List.length_append, List.length_append, List.length_replicate, H3.out.2.1, H4.out.2.1]; exact hj
                    have hLT : ∀ g ∈ gs1 ++ List.replicate j 0 ++ gs2, g < 65536 := by
                      intro g hg
                      rcases List.mem_append.1 hg with hg | hg
                      · rcases List.mem_append.1 hg with hg | hg
                        · exact grpP_lt H3.out.1 g hg
                        · have := List.eq_of_mem_replicate hg; omega
                      · exact H4.out.2.2.1 g hg
                    have HPP := Lib.hid (And.intro hP (And.intro hLEN hLT))
                    have q7 : ¬ ((n1 + j : Nat) : Int) + (n2 : Int) < 8 := by omega
                    clear hP hLEN hLT
                    generalize hnj : n1 + j = nj at HJ q7 hj hwj
                    clear hwj
                    have hnj8 : nj ≤ 8 := by omega
                    clear hnj
                    go_wp2_with (first | (at_builtin; go_loud (refine wpList_append_vals el16 rfl (.tmp 93) (.tmp 94) rfl y.heap.size _ nj _ rfl HJ.out.1 a2 n2 c2 (nums .u16 gs2) rfl (nums_one _ _) (by rw [nums_length]; exact H4.out.2.1) HJ.out.2.2.1 H4.out.1.2 (by unfold maxLen; omega) (by omega) HJ.out.2.1.size ?_; intro a6 c6 w6 hown6 hg6' hat6; rw [← nums_append] at hown6; have H6 : Hid (At w6 a6 (nums .u16 (gs1 ++ List.replicate j 0 ++ gs2)) ∧ Fr No y w6) := ⟨At.own hown6, HJ.out.2.1.own_grown HJ.out.1 (Nat.le_refl _) hg6'⟩; clear hown6 hg6' hat6)) | fail)
                    refine (at_prog HP.out (v6_ref a6 8 c6 (gs1 ++ List.replicate j 0 ++ gs2) w6 H6.out.1 HPP.out.2.1 HPP.out.2.2)).mono ?_
                    rintro e w7 ⟨rfl, hf7⟩
                    have HE : Hid (adr (decide (8 = 8)) (v6Of (gs1 ++ List.replicate j 0 ++ gs2)) = adr (resB (parseS l)) (resX (parseS l)) ∧ decide (8 = 8) = (parseS l).isSome) := by
                      rw [HPP.out.1, v6Of, if_pos HPP.out.2.1]
                      exact ⟨rfl, rfl⟩
                    rw [HE.out.1]
                    have hV : (adr (resB (parseS l)) (resX (parseS l))).length = k24 := by rw [HK25.out]; exact HRL.out
                    obtain ⟨y', hs2, hb2, hf2⟩ := HSTO.out (adr (resB (parseS l)) (resX (parseS l))) w7 HRL.out (adr_one _ _) (H6.out.2.trans hf7)
                    have H2 := Lib.hid (And.intro hb2 hf2)
                    clear hb2 hf2 hf7
                    generalize hVV : adr (resB (parseS l)) (resX (parseS l)) = V at hs2 hV H2 HRL ⊢
                    have hs3 : Sem.run Tryz.prog (storeCells ⟨n, 0, none⟩ V 0) w7 = .ok () y' := hs2
                    have hV2 : V.length = 17 := HRL.out
                    clear hs2 hV
                    have HVV := Lib.hid hVV
                    clear hVV
                    go_wp2_with fail
                    refine bodyPost_ret_by (results_agg_tmp rfl _ (b := n) (k := 17) (cs := V.toArray) (Tryz.isAgg25 _) (Tryz.sizeOf25 _) rfl (load_all H2.out.1 HRL.out)) rfl ?_
                    exact ⟨by rw [← HE.out.2, HVV.out]; rfl, H2.out.2⟩
                  · have q7 : ((n1 + j : Nat) : Int) + (n2 : Int) < 8 := by omega
                    have hbk := heap_alloc_new wr (.cells #[.int .u16 0] 109)
                    have hbf := Fr.alloc No wr (.cells #[.int .u16 0] 109)
                    have hbs : (wr.alloc (.cells #[.int .u16 0] 109)).heap.size = wr.heap.size + 1 := by simp
                    have HB := Lib.hid (And.intro hbk (And.intro hbf hbs))
                    clear hbk hbf hbs
                    generalize hnj : n1 + j = nj at HJ q7 hj hwj
                    clear hwj
                    have HNJ := Lib.hid hnj
                    have hnj8 : nj + n2 < 8 := by omega
                    clear hnj
                    go_wp2_with (first | (at_builtin; go_loud (refine wpList_append_vals el16 rfl (.tmp 90) (.tmp 91) rfl y.heap.size _ nj _ rfl (row_frNo HJ.out.1 HB.out.2.1) (some ⟨wr.heap.size, 0, none⟩) 1 1 (nums .u16 [0]) rfl (nums_one _ _) rfl (At.block HB.out.1) (fun h => by cases h) (by unfold maxLen; omega) (by omega) (Nat.le_trans HJ.out.2.1.size HB.out.2.1.size) ?_; intro a6 c6 w6 hown6 hg6' hat6; have H6 : Hid (w6.ownsRow y.heap.size 109 1 (.slice a6 (nj + 1) c6) (nj + 1) (nums .u16 (gs1 ++ List.replicate (j + 1) 0)) ∧ Fr No y w6 ∧ At w6 a2 (nums .u16 gs2) ∧ w4.heap.size ≤ w6.heap.size ∧ ∀ ad, a2 = some ad → (Value.slice a6 (nj + 1) c6).ownBlock ≠ some ad.block) := ⟨(by rw [List.replicate_succ', ← List.append_assoc, nums_append]; exact hown6), (HJ.out.2.1.trans HB.out.2.1).own_grown (row_frNo HJ.out.1 HB.out.2.1) (Nat.le_refl _) hg6', (HJ.out.2.2.1.frNo HB.out.2.1).fr (Fr.grown (S := fun k => (Value.slice a nj c).ownBlock = some k) hg6' (fun k hk => hk)) (fun ad had hk => HJ.out.2.2.2.2 ad had hk), Nat.le_trans HJ.out.2.2.2.1 (Nat.le_trans HB.out.2.1.size hg6'.size), (fun ad had => own_other hat6 (HJ.out.2.2.2.2 ad had) (H4.out.2.2.2.2.2.2 ad had).2 HB.out.2.2 HJ.out.2.2.2.1)⟩; clear hown6 hg6' hat6)) | fail)
                    go_roundg (8 - (nj + n2))
                    case measure => have := HNJ.out; omega
                    case rel => exact ⟨a6, c6, j + 1, by rw [← Nat.add_assoc, HNJ.out], by have := HNJ.out; omega, by have := HNJ.out; omega, by rw [← Nat.add_assoc, HNJ.out]; exact H6.out⟩
              · have p7 : (7 : Int) < (n1 : Int) + (n2 : Int) := by omega
                have HPN : Hid (parseS l = none) := by show _ = _; rw [HFILL.out, if_neg h7]
                obtain ⟨y', hs2, hb2, hf2, hso⟩ := FAIL.out HPN.out w4 (H3.out.2.2.2.trans hf4)
                have H2 := Lib.hid (And.intro hb2 (And.intro hf2 hso))
                clear hb2 hf2 hso hgs2 hf4 hgl2 hown2 h7
                go_wp2_with fail
                refine bodyPost_ret_by (results_agg_tmp rfl _ (b := n) (k := 17) (cs := (adr (resB (parseS l)) (resX (parseS l))).toArray) (Tryz.isAgg25 _) (Tryz.sizeOf25 _) rfl (load_all H2.out.1 HRL.out)) rfl ?_
                exact ⟨by rw [H2.out.2.2]; rfl, H2.out.2.1⟩
            · have HPN : Hid (parseS l = none) := by show _ = _; rw [HR.out, hgs2, H3.out.1]; rfl
              obtain ⟨y', hs2, hb2, hf2, hso⟩ := FAIL.out HPN.out w4 (H3.out.2.2.2.trans hf4)
              have H2 := Lib.hid (And.intro hb2 (And.intro hf2 hso))
              clear hb2 hf2 hso hgs2 hf4
              go_wp2_with fail
              refine bodyPost_ret_by (results_agg_tmp rfl _ (b := n) (k := 17) (cs := (adr (resB (parseS l)) (resX (parseS l))).toArray) (Tryz.isAgg25 _) (Tryz.sizeOf25 _) rfl (load_all H2.out.1 HRL.out)) rfl ?_
              exact ⟨by rw [H2.out.2.2]; rfl, H2.out.2.1⟩
          · have HPN : Hid (parseS l = none) := by show _ = _; rw [HR.out, hgs1]; rfl
            clear H3
            have H3 := Lib.hid hf3
            clear hgs1 hf3
            go_wp2_with fail
            refine (at_prog HP.out (HPB.out w3)).mono ?_
            rintro e w4 ⟨⟨gs2, a2, n2, c2, hgs2, hgl2, rfl, hown2⟩ | ⟨hgs2, rfl⟩, hf4⟩
            all_goals (
              obtain ⟨y', hs2, hb2, hf2, hso⟩ := FAIL.out HPN.out w4 (H3.out.trans hf4)
              have H2 := Lib.hid (And.intro hb2 (And.intro hf2 hso))
              try clear hgl2 hown2
              clear hb2 hf2 hso hgs2 hf4
              go_wp2_with fail
              refine bodyPost_ret_by (results_agg_tmp rfl _ (b := n) (k := 17) (cs := (adr (resB (parseS l)) (resX (parseS l))).toArray) (Tryz.isAgg25 _) (Tryz.sizeOf25 _) rfl (load_all H2.out.1 HRL.out)) rfl ?_
              exact ⟨by rw [H2.out.2.2]; rfl, H2.out.2.1⟩)
        · have HNO : Hid (∀ j : Nat, j < i + 1 → l[j]? = some 58 → l[j + 1]? = some 58 → False) := fun j hj h1 h2 => by
            by_cases hji : j = i
            · subst hji
              exact hcd ⟨Option.some.inj (hc.symm.trans h1), Option.some.inj (hd.symm.trans h2)⟩
            · exact hno j (by omega) h1 h2
          have hcase : ¬ (c.toNat : Int) = 58 ∨ ((c.toNat : Int) = 58 ∧ ¬ (d.toNat : Int) = 58) := by
            by_cases h1 : c = 58
            · exact .inr ⟨by rw [h1]; rfl, fun e => hcd ⟨h1, UInt8.toNat_inj.1 (by show d.toNat = 58; omega)⟩⟩
            · exact .inl fun e => h1 (UInt8.toNat_inj.1 (by show c.toNat = 58; omega))
          clear hcd hno hc hd
          rcases hcase with h1 | ⟨h1, h2⟩
          all_goals (
            go_wp2_with fail
            go_roundg (ln - i)
            case measure => exact hig
            case rel => exact ⟨i + 1, rfl, by go_num, by omega, by omega, rfl, HNO.out⟩)
      · have q2 : ¬ (i : Int) + 1 < (ln : Int) := by omega
        have HR : Hid (parseS l = (eight (grpP true l)).map fun gs => (true, pack gs)) := by
          refine parse_plain HH4.out (cut2_no fun j h1 h2 => ?_)
          have h3 := (List.getElem?_eq_some_iff.1 h2).1
          rw [HLN.out] at h3
          exact hno j (by omega) h1 h2
        clear hno hi
        go_wp2_with fail
        refine (at_prog HP.out (HPS.out y)).mono ?_
        rintro e w3 ⟨⟨gs, a3, n3, c3, hgs, hgl, rfl, hown⟩ | ⟨hgs, rfl⟩, hf3⟩
        · have hlt := grpP_lt hgs
          have HV := Lib.hid (And.intro (row_At hown) (And.intro hgl (And.intro hlt hf3)))
          have HE := fill_eight HR.out hgs hgl
          have HE := Lib.hid HE
          clear hgs hgl hown hf3 hlt
          go_wp2_with fail
          refine (at_prog HP.out (v6_ref a3 n3 c3 gs w3 HV.out.1.1 HV.out.2.1 HV.out.2.2.1)).mono ?_
          rintro e w4 ⟨rfl, hf4⟩
          rw [HE.out.1]
          have hV : (adr (resB (parseS l)) (resX (parseS l))).length = k24 := by rw [HK25.out]; exact HRL.out
          obtain ⟨y', hs2, hb2, hf2⟩ := HSTO.out (adr (resB (parseS l)) (resX (parseS l))) w4 HRL.out (adr_one _ _) (HV.out.2.2.2.trans hf4)
          have H2 := Lib.hid (And.intro hb2 hf2)
          clear hb2 hf2 hf4
          generalize hVV : adr (resB (parseS l)) (resX (parseS l)) = V at hs2 hV H2 HRL ⊢
          have hs3 : Sem.run PD (storeCells ⟨n, 0, none⟩ V.toArray.toList 0) w4 = .ok () y' := hs2
          have hV2 : V.toArray.size = k24 := by rw [List.size_toArray]; exact hV
          have HVV := Lib.hid hVV
          clear hVV
          go_wp2_with fail
          refine bodyPost_ret_by (results_agg_tmp rfl _ (b := n) (k := 17) (cs := V.toArray) (Tryz.isAgg25 _) (Tryz.sizeOf25 _) rfl (load_all H2.out.1 HRL.out)) rfl ?_
          exact ⟨by rw [← HE.out.2, HVV.out]; rfl, H2.out.2⟩
        · have HPN : Hid (parseS l = none) := by show _ = _; rw [HR.out, hgs]; rfl
          obtain ⟨y', hs2, hb2, hf2, hso⟩ := FAIL.out HPN.out w3 hf3
          have H2 := Lib.hid (And.intro hb2 (And.intro hf2 hso))
          clear hb2 hf2 hso hgs hf3
          go_wp2_with fail
          refine bodyPost_ret_by (results_agg_tmp rfl _ (b := n) (k := 17) (cs := (adr (resB (parseS l)) (resX (parseS l))).toArray) (Tryz.isAgg25 _) (Tryz.sizeOf25 _) rfl (load_all H2.out.1 HRL.out)) rfl ?_
          exact ⟨by rw [H2.out.2.2]; rfl, H2.out.2.1⟩
end Go.Proofs.YtnadendhboiliaaGreat
