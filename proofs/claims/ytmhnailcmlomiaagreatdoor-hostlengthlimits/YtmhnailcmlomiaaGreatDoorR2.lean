/-
  CONTRACTS of the reference's Split, over this seat's translation: what the call returns.
  Conditions: the string is shorter than 2 to the 31.
  CONTRACTS of the reference's ParseDecimal and ParsePort, over this seat's translation: what each call returns.
  Conditions: none.
-/
import Derived.Test.YtmhnailcmlomiaaGreatDoorW
import Derived.Test.YtmhnailcmlomiaaGreatDoorAp
import Derived.Test.YtmhnailcmlomiaaGreatDoorA
import Derived.Deep.RegionLawGrows
namespace Go.Proofs.YtmhnailcmlomiaaGreatDoor
open Go.ChangeShapes Go.WideShapes Go.ChangeAt Go.RowKit
set_option linter.unusedVariables false

theorem bs_index {l : List UInt8} {i : Nat} {c : UInt8} (h : l[i]? = some c) (w : World) : Sem.run PD (Instr.index 9 (.string (bs l)) (.int .i64 i)) w = .ok (.int .u8 (c.toNat : Int)) w := by
  obtain ⟨h1, e1⟩ := List.getElem?_eq_some_iff.1 h
  have h2 : (0 : Int) ≤ (i : Int) ∧ (i : Int) < ((bs l).size : Int) := by rw [bs_size]; omega
  show Sem.run Tryz.prog _ w = _
  have e2 : (bs l)[i]? = some c := by rw [getElem?_pos (bs l) i (by rw [bs_size]; exact h1)]; exact congrArg some e1
  simp [Instr.index, asIntOf, run_underlying Tryz.underlying9, e2]
theorem zero9 : ∀ w, (zeroValue 9).run Tryz.prog w = .ok (.string ⟨#[]⟩) w := by
  intro w
  kernel_rfl
theorem bs_extract (l : List UInt8) (a b : Nat) : (bs l).extract a b = bs ((l.drop a).take (b - a)) := by
  apply ByteArray.ext
  apply Array.toList_inj.1
  simp [bs]
set_option maxHeartbeats 4000000 in
set_option maxRecDepth 100000 in
theorem split_ref (l : List UInt8) (c : UInt8) (hl : l.length < 2147483648) (w : World) :
    Calls Tryz.prog 68 #[.string (bs l), .int .u8 (c.toNat : Int)] w fun e w' => ∃ a cap, e = .returned (.slice a (splitc c l).length cap) ∧ w'.ownsRow w.heap.size 9 1 (.slice a (splitc c l).length cap) (splitc c l).length (strs ((splitc c l).map bs)) ∧ Fr No w w' := by
  have hsz : (bs l).size = l.length := rfl
  have HL := Lib.hid hl
  generalize hln : l.length = ln at hsz
  have HLN := Lib.hid hln
  have hl2 : ln < 2147483648 := by omega
  have HIX : Hid (∀ (i : Nat) (x : UInt8) (w : World), l[i]? = some x → Sem.run PD (Instr.index 9 (.string (bs l)) (.int .i64 i)) w = .ok (.int .u8 (x.toNat : Int)) w) := fun i x w h => bs_index h w
  have HEX : Hid (∀ a b : Nat, (bs l).extract a b = bs ((l.drop a).take (b - a))) := fun a b => bs_extract l a b
  generalize hs : bs l = s at hsz HIX HEX ⊢
  have HS := Lib.hid hs
  clear hs hl hln
  go_enter Tryz.func68, Tryz.ntmps68
  have t3 := Tryz.underlying3
  have u3 := Tryz.runUnderlying3
  have g3 := Tryz.isAgg3
  have z3 := Tryz.sizeOf3
  have t4 := Tryz.underlying4
  have u4 := Tryz.runUnderlying4
  have g4 := Tryz.isAgg4
  have z4 := Tryz.sizeOf4
  have t5 := Tryz.underlying5
  have u5 := Tryz.runUnderlying5
  have g5 := Tryz.isAgg5
  have z5 := Tryz.sizeOf5
  have t9 := Tryz.underlying9
  have u9 := Tryz.runUnderlying9
  have g9 := Tryz.isAgg9
  have z9 := Tryz.sizeOf9
  have t75 := Tryz.underlying75
  have u75 := Tryz.runUnderlying75
  have g75 := Tryz.isAgg75
  have z75 := Tryz.sizeOf75
  have v9 := zero9
  have mixed : Tryz.prog.follows .mixedOrders = true := by kernel_rfl
  have hP : Tryz.prog = PD := rfl
  rw [hP] at t3 u3 g3 z3 t4 u4 g4 z4 t5 u5 g5 z5 t9 u9 g9 z9 t75 u75 g75 z75 v9 mixed ⊢
  have HP := Lib.hid hP.symm
  clear hP 
  go_wp2_with fail
  go_loopg [5, 6, 7] (ln + 1) (fun g s5 s6 s7 wr => ∃ (a : Option Addr) (n cap f i : Nat), s5 = .slice a n cap ∧ s6 = .int .i64 f ∧ s7 = .int .i64 i ∧ f ≤ i ∧ i ≤ ln ∧ ln - i < g ∧ n ≤ i ∧ Hid (∃ done, splitc c l = done ++ splitc c (l.drop f) ∧ done.length = n ∧ (∀ j x, f ≤ j → j < i → l[j]? = some x → x ≠ c) ∧ wr.ownsRow w.heap.size 9 1 (.slice a n cap) n (strs (done.map bs)) ∧ Fr No w wr))
  case atStart => exact ⟨none, 0, 0, 0, 0, rfl, by go_num, by go_num, by omega, by omega, by omega, by omega, [], rfl, rfl, fun j x h1 h2 => by omega, World.ownsRow_nil _ _ _ _, Fr.refl _ _⟩
  case round =>
    obtain ⟨a, n, cap, f, i, rfl, rfl, rfl, hfi, hil, hig, hni, HR⟩ := hrel
    obtain ⟨done, h1, h2, h3, h4, h5⟩ := HR.out
    have q1 : (0 : Int) ≤ (f : Int) := by omega
    have q2 : (f : Int) ≤ (i : Int) := by omega
    have q3 : (i : Int) ≤ (ln : Int) := by omega
    by_cases hi : i = ln
    · subst hi
      have HSP : Hid (splitc c l = done ++ [(l.drop f).take (i - f)]) := by
        have h6 := split_end h1 (fun j x ha hb => h3 j x ha (by rw [HLN.out] at hb; exact hb))
        rw [List.take_of_length_le (by rw [List.length_drop, HLN.out]; exact Nat.le_refl _)]
        exact h6
      have HX := Lib.hid (And.intro h4 (And.intro h2 (And.intro h5 h5.size)))
      have he := HEX.out f i
      have hbk := heap_alloc_new wr (.cells #[.string (s.extract f i)] 9)
      have hbf := Fr.alloc No wr (.cells #[.string (s.extract f i)] 9)
      rw [he] at hbk hbf
      have HB := Lib.hid (And.intro hbk hbf)
      clear h1 h2 h3 h4 h5 HR hbk hbf
      have HE := Lib.hid he
      clear he
      go_wp2_with (first | (at_builtin; go_loud (rw [HE.out]; refine wpList_append_vals elS rfl (.tmp 28) (.tmp 32) rfl w.heap.size _ n _ rfl (row_frNo HX.out.1 HB.out.2) (some ⟨wr.heap.size, 0, none⟩) 1 1 [Value.string (bs ((l.drop f).take (i - f)))] rfl (by simp [Value.oneCell']) rfl (At.block HB.out.1) (fun h => by cases h) (by unfold maxLen; omega) (by omega) (Nat.le_trans HX.out.2.2.2 HB.out.2.size) ?_; intro a6 c6 w6 hown6 hg6 hat6; have H6 : Hid (w6.ownsRow w.heap.size 9 1 (.slice a6 (n + 1) c6) (n + 1) (strs ((done ++ [(l.drop f).take (i - f)]).map bs)) ∧ Fr No w w6) := ⟨(by rw [List.map_append, strs_append]; exact hown6), (HX.out.2.2.1.trans HB.out.2).own_grown (row_frNo HX.out.1 HB.out.2) (Nat.le_refl _) hg6⟩; clear hown6 hg6 hat6)) | fail)
      go_ret
      refine ⟨a6, c6, ?_, ?_, H6.out.2⟩
      · rw [HSP.out, List.length_append, HX.out.2.1]; rfl
      · rw [HSP.out, List.length_append, HX.out.2.1]; exact H6.out.1
    · obtain ⟨x, hx⟩ : ∃ x, l[i]? = some x := ⟨_, List.getElem?_eq_getElem (by rw [HLN.out]; omega)⟩
      have hix := HIX.out i x wr hx
      have q4 : (i : Int) < (ln : Int) := by omega
      by_cases hxc : x = c
      · subst hxc
        have HSP : Hid (splitc x l = (done ++ [(l.drop f).take (i - f)]) ++ splitc x (l.drop (i + 1))) := split_hit h1 hfi h3 hx
        have HX := Lib.hid (And.intro h4 (And.intro h2 (And.intro h5 h5.size)))
        have he := HEX.out f i
        have hbk := heap_alloc_new wr (.cells #[.string (s.extract f i)] 9)
        have hbf := Fr.alloc No wr (.cells #[.string (s.extract f i)] 9)
        rw [he] at hbk hbf
        have HB := Lib.hid (And.intro hbk hbf)
        clear h1 h2 h3 h4 h5 HR hbk hbf
        have HE := Lib.hid he
        clear he
        go_wp2_with (first | (at_builtin; go_loud (rw [HE.out]; refine wpList_append_vals elS rfl (.tmp 19) (.tmp 24) rfl w.heap.size _ n _ rfl (row_frNo HX.out.1 HB.out.2) (some ⟨wr.heap.size, 0, none⟩) 1 1 [Value.string (bs ((l.drop f).take (i - f)))] rfl (by simp [Value.oneCell']) rfl (At.block HB.out.1) (fun h => by cases h) (by unfold maxLen; omega) (by omega) (Nat.le_trans HX.out.2.2.2 HB.out.2.size) ?_; intro a6 c6 w6 hown6 hg6 hat6; have H6 : Hid (w6.ownsRow w.heap.size 9 1 (.slice a6 (n + 1) c6) (n + 1) (strs ((done ++ [(l.drop f).take (i - f)]).map bs)) ∧ Fr No w w6) := ⟨(by rw [List.map_append, strs_append]; exact hown6), (HX.out.2.2.1.trans HB.out.2).own_grown (row_frNo HX.out.1 HB.out.2) (Nat.le_refl _) hg6⟩; clear hown6 hg6 hat6)) | fail)
        go_roundg (ln - i)
        case measure => exact hig
        case rel => exact ⟨a6, n + 1, c6, i + 1, i + 1, rfl, by go_num, by go_num, by omega, by omega, by omega, by omega, done ++ [(l.drop f).take (i - f)], HSP.out, by rw [List.length_append, HX.out.2.1]; rfl, fun j y h1 h2 => by omega, H6.out.1, H6.out.2⟩
      · have p1 : ¬ (x.toNat : Int) = (c.toNat : Int) := fun e => hxc (UInt8.toNat_inj.1 (Int.ofNat_inj.1 e))
        go_wp2_with fail
        go_roundg (ln - i)
        case measure => exact hig
        case rel =>
          refine ⟨a, n, cap, f, i + 1, rfl, rfl, by go_num, by omega, by omega, by omega, by omega, done, h1, h2, ?_, h4, h5⟩
          intro j y hj1 hj2 hy
          by_cases hji : j = i
          · subst hji; rw [hx] at hy; cases hy; exact hxc
          · exact h3 j y hj1 (by omega) hy
end Go.Proofs.YtmhnailcmlomiaaGreatDoor
namespace Go.Proofs.YtmhnailcmlomiaaGreatDoor
open Go.ChangeShapes Go.WideShapes Go.ChangeAt Go.RowKit
set_option linter.unusedVariables false

/-- A number, or -1. -/
def decI : Option Nat → Int
  | none => -1
  | some n => n
theorem bs_isEmpty (l : List UInt8) : (bs l).toList.isEmpty = l.isEmpty := by
  have : (bs l).toList = l := by rw [ByteArray.toList_eq]; rfl
  rw [this]
theorem pow10_le {i : Nat} (h : i ≤ 5) : 10 ^ i * 10 ≤ 1000000 := by
  have : i = 0 ∨ i = 1 ∨ i = 2 ∨ i = 3 ∨ i = 4 ∨ i = 5 := by omega
  rcases this with rfl | rfl | rfl | rfl | rfl | rfl <;> decide

set_option maxHeartbeats 4000000 in
set_option maxRecDepth 100000 in
theorem pdec_ref (l : List UInt8) (most : Nat) (w : World) :
    Calls Tryz.prog 70 #[.string (bs l), .int .i64 most] w fun e w' => e = .returned (.int .i64 (decI (decR most l))) ∧ w' = w := by
  have hsz : (bs l).size = l.length := rfl
  have hemp := bs_isEmpty l
  cases hl : l with
  | nil =>
    rw [hl] at hemp hsz
    have he : (bs []).toList.isEmpty = true := hemp
    generalize bs [] = s at hsz he ⊢
    clear hemp hsz
    go_enter Tryz.func70, Tryz.ntmps70
    go_wp2_with fail
    go_ret
    exact ⟨rfl, rfl⟩
  | cons c0 r =>
    rw [← hl]
    have he : (bs l).toList.isEmpty = false := by rw [hemp, hl]; rfl
    have hx0 := bs_index (l := l) (i := 0) (c := c0) (by rw [hl]; rfl)
    have hx0' : ∀ w, Sem.run Tryz.prog (Instr.index 9 (.string (bs l)) (.int .i64 0)) w = .ok (.int .u8 (c0.toNat : Int)) w := hx0
    have HIX : Hid (∀ (i : Nat) (x : UInt8) (w : World), l[i]? = some x → Sem.run Tryz.prog (Instr.index 9 (.string (bs l)) (.int .i64 i)) w = .ok (.int .u8 (x.toNat : Int)) w) := fun i x w h => bs_index h w
    have HH : Hid (l.head? = some c0 ∧ l ≠ []) := by rw [hl]; exact ⟨rfl, by simp⟩
    generalize bs l = s at hsz he hx0 hx0' HIX ⊢
    clear hx0 hemp hl
    by_cases h6 : 6 < l.length
    · have p1 : (6 : Int) < (l.length : Int) := by omega
      rw [show decR most l = none by rw [decR, if_pos (.inr (.inl h6))]]
      clear h6 HIX HH hx0'
      go_enter Tryz.func70, Tryz.ntmps70
      go_wp2_with fail
      go_ret
      exact ⟨rfl, rfl⟩
    · have p1 : ¬ (6 : Int) < (l.length : Int) := by omega
      by_cases h0 : c0 = 48 ∧ 1 < l.length
      · obtain ⟨rfl, h1⟩ := h0
        have p2 : (1 : Int) < (l.length : Int) := by omega
        have hx1 : ∀ w, Sem.run Tryz.prog (Instr.index 9 (.string s) (.int .i64 0)) w = .ok (.int .u8 48) w := hx0'
        rw [show decR most l = none by rw [decR, if_pos (.inr (.inr ⟨HH.out.1, h1⟩))]]
        clear h6 HIX HH hx0' h1
        go_enter Tryz.func70, Tryz.ntmps70
        go_wp2_with fail
        go_ret
        exact ⟨rfl, rfl⟩
      · have HD : Hid (decR most l = match digGo 0 l with
            | some n => if n ≤ most then some n else none
            | none => none) := by
          show _ = _
          rw [decR, if_neg]
          · cases digGo 0 l <;> rfl
          · rintro (h | h | h)
            · exact HH.out.2 h
            · exact h6 h
            · exact h0 ⟨Option.some.inj (HH.out.1.symm.trans h.1), h.2⟩
        have h01 : (c0.toNat : Int) = 48 → ¬ (1 : Int) < (l.length : Int) := fun e h => h0 ⟨UInt8.toNat_inj.1 (by show c0.toNat = 48; omega), by omega⟩
        obtain ⟨ln, hln⟩ : ∃ ln, l.length = ln := ⟨_, rfl⟩
        rw [hln] at hsz p1 h01 h6
        have HLN := Lib.hid hln
        obtain ⟨x0, hx0e⟩ : ∃ x0 : Int, (c0.toNat : Int) = x0 := ⟨_, rfl⟩
        rw [hx0e] at hx0' h01
        clear h0 hln hx0e HH
        have hl6 : ln ≤ 6 := by omega
        have hcond : (x0 = 48 ∧ ¬ (1 : Int) < (ln : Int)) ∨ ¬ x0 = 48 := by
          by_cases e : x0 = 48
          · exact .inl ⟨e, h01 e⟩
          · exact .inr e
        clear h01 h6
        have key : ∀ (w : World), True := fun _ => trivial
        clear key
        rcases hcond with ⟨pc, pd⟩ | pc
        all_goals (
          go_enter Tryz.func70, Tryz.ntmps70
          go_wp2_with fail
          clear hx0'
          go_loopg [5, 6] (ln + 1) (fun g s5 s6 wr => ∃ (i : Nat) (a : Int), s5 = .int .i64 a ∧ s6 = .int .i64 i ∧ i ≤ ln ∧ ln - i < g ∧ Hid (wr = w ∧ ∃ acc : Nat, a = acc ∧ acc < 10 ^ i ∧ digGo 0 l = digGo acc (l.drop i)))
          case atStart => exact ⟨0, 0, rfl, by go_num, by omega, by omega, rfl, 0, rfl, by decide, rfl⟩
          case round =>
            obtain ⟨i, a, rfl, rfl, hil, hig, HR⟩ := hrel
            obtain ⟨hw, acc, ha, hai, hgo⟩ := HR.out
            have hw' := hw.symm
            subst hw'
            clear hw HR
            by_cases hi : i = ln
            · subst hi
              rw [List.drop_of_length_le (by rw [HLN.out]; exact Nat.le_refl _)] at hgo
              have HV := Lib.hid (And.intro hgo ha)
              clear hgo hai
              by_cases hm : acc ≤ most
              · have pm : ¬ (most : Int) < a := by omega
                clear ha
                go_wp2_with fail
                go_ret
                exact ⟨by rw [HD.out, HV.out.1]; simp [digGo, hm, decI, HV.out.2], rfl⟩
              · have pm : (most : Int) < a := by omega
                clear ha
                go_wp2_with fail
                go_ret
                exact ⟨by rw [HD.out, HV.out.1]; simp [digGo, hm, decI], rfl⟩
            · obtain ⟨c, hc⟩ : ∃ c, l[i]? = some c := ⟨_, List.getElem?_eq_getElem (by rw [HLN.out]; omega)⟩
              have hix := HIX.out i c w hc
              have hstep := hgo.trans (digGo_step hc)
              have hb1 : 10 ^ i * 10 ≤ 1000000 := pow10_le (by omega)
              have q1 : (0 : Int) ≤ (i : Int) := by omega
              have q2 : (i : Int) < (ln : Int) := by omega
              obtain ⟨x, hx⟩ : ∃ x : Int, ((c.toNat : Nat) : Int) = x := ⟨_, rfl⟩
              rw [hx] at hix
              have hc256 : c.toNat < 256 := c.toNat_lt
              have x0 : 0 ≤ x := by omega
              have x1 : x ≤ 255 := by omega
              have a0 : 0 ≤ a := by omega
              have a1 : a ≤ 100000 := by omega
              have HS1 := Lib.hid (And.intro hstep (And.intro hai (And.intro hx ha)))
              by_cases hd : 48 ≤ x ∧ x ≤ 57
              · obtain ⟨d1, d2⟩ := hd
                have d3 : ¬ x < 48 := by omega
                have d4 : ¬ 57 < x := by omega
                have HN : Hid (digGo 0 l = digGo (10 * acc + (c.toNat - 48)) (l.drop (i + 1)) ∧ 10 * acc + (c.toNat - 48) < 10 ^ (i + 1) ∧ ((10 * acc + (c.toNat - 48) : Nat) : Int) = 10 * a + (x - 48)) := by
                  refine ⟨?_, ?_, by omega⟩
                  · rw [hstep, if_pos (by omega)]
                  · rw [Nat.pow_succ]; omega
                clear hstep hai hx ha hc256 hb1 hc hgo
                go_wp2_with fail
                go_roundg (ln - i)
                case measure => exact hig
                case rel => exact ⟨i + 1, 10 * a + (x - 48), by go_num, by go_num, by omega, by omega, rfl, _, HN.out.2.2.symm, HN.out.2.1, HN.out.1⟩
              · have HN : Hid (digGo 0 l = none) := by
                  show _ = _
                  rw [hstep, if_neg (by omega)]
                clear hstep hai hx ha hc256 hb1 hc hgo
                by_cases d1 : x < 48
                · clear hd
                  go_wp2_with fail
                  go_ret
                  exact ⟨by rw [HD.out, HN.out]; rfl, rfl⟩
                · have d2 : 57 < x := by omega
                  clear hd
                  go_wp2_with fail
                  go_ret
                  exact ⟨by rw [HD.out, HN.out]; rfl, rfl⟩)

/-- What ParsePort gives. -/
def portN : Option Nat → Nat
  | none => 0
  | some n => n

set_option maxHeartbeats 2000000 in
set_option maxRecDepth 100000 in
theorem pport_ref (l : List UInt8) (w : World) :
    Calls Tryz.prog 42 #[.string (bs l)] w fun e w' => e = .returned (.tuple #[.int .i64 (portN (portV l) : Nat), .bool (portV l).isSome]) ∧ w' = w := by
  have HP := Lib.hid (pdec_ref l 65535 w)
  have HV := Lib.hid (portV_decR l)
  generalize bs l = s at HP ⊢
  go_enter Tryz.func42, Tryz.ntmps42
  go_wp2_with fail
  refine HP.out.mono ?_
  rintro e w1 ⟨rfl, rfl⟩
  cases hd : decR 65535 l with
  | none =>
    have HR : Hid (portV l = none) := by show _ = _; rw [HV.out, hd]
    have p1 : decI none < 1 := by decide
    clear hd
    go_wp2_with fail
    go_ret2
    exact ⟨by rw [HR.out]; rfl, rfl⟩
  | some n =>
    by_cases hn : n < 1
    · have HR : Hid (portV l = none) := by show _ = _; rw [HV.out, hd]; exact if_pos hn
      have p1 : decI (some n) < 1 := by show (n : Int) < 1; omega
      clear hd
      go_wp2_with fail
      go_ret2
      exact ⟨by rw [HR.out]; rfl, rfl⟩
    · have HR : Hid (portV l = some n) := by show _ = _; rw [HV.out, hd]; exact if_neg hn
      have p1 : ¬ decI (some n) < 1 := by show ¬ (n : Int) < 1; omega
      clear hd
      go_wp2_with fail
      go_ret2
      exact ⟨by rw [HR.out]; rfl, rfl⟩
end Go.Proofs.YtmhnailcmlomiaaGreatDoor
