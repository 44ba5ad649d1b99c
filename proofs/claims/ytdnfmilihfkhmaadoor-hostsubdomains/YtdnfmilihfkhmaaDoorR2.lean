/-
  CONTRACTS of the reference's Split, over this seat's translation: what the call returns.
  Conditions: the string is shorter than 2 to the 31.
-/
import Derived.Test.YtdnfmilihfkhmaaDoorPa
import Derived.Test.YtdnfmilihfkhmaaDoorAp
import Derived.Test.YtdnfmilihfkhmaaDoorAd
import Derived.Deep.RegionLawGrows
namespace Go.Proofs.YtdnfmilihfkhmaaDoor
open Go.ChangeShapes Go.WideShapes Go.ChangeAt Go.RowKit
set_option linter.unusedVariables false

theorem bs_index {l : List UInt8} {i : Nat} {c : UInt8} (h : l[i]? = some c) (w : World) : Sem.run PD (Instr.index 9 (.string (bs l)) (.int .i64 i)) w = .ok (.int .u8 (c.toNat : Int)) w := by
  obtain ⟨h1, e1⟩ := List.getElem?_eq_some_iff.1 h
  have h2 : (0 : Int) ≤ (i : Int) ∧ (i : Int) < ((bs l).size : Int) := by rw [bs_size]; omega
  show Sem.run Tryd.prog _ w = _
  have e2 : (bs l)[i]? = some c := by rw [getElem?_pos (bs l) i (by rw [bs_size]; exact h1)]; exact congrArg some e1
  simp [Instr.index, asIntOf, run_underlying Tryd.underlying9, e2]
theorem zero9 : ∀ w, (zeroValue 9).run Tryd.prog w = .ok (.string ⟨#[]⟩) w := by
  intro w
  kernel_rfl
theorem bs_extract (l : List UInt8) (a b : Nat) : (bs l).extract a b = bs ((l.drop a).take (b - a)) := by
  apply ByteArray.ext
  apply Array.toList_inj.1
  simp [bs]
set_option maxHeartbeats 4000000 in
set_option maxRecDepth 100000 in
theorem split_ref (l : List UInt8) (c : UInt8) (hl : l.length < 2147483648) (w : World) :
    Calls Tryd.prog 57 #[.string (bs l), .int .u8 (c.toNat : Int)] w fun e w' => ∃ a cap, e = .returned (.slice a (splitc c l).length cap) ∧ w'.ownsRow w.heap.size 9 1 (.slice a (splitc c l).length cap) (splitc c l).length (strs ((splitc c l).map bs)) ∧ Fr No w w' := by
  have hsz : (bs l).size = l.length := rfl
  have HL := Lib.hid hl
  generalize hln : l.length = ln at hsz
  have HLN := Lib.hid hln
  have hl2 : ln < 2147483648 := by omega
  have HIX : Hid (∀ (i : Nat) (x : UInt8) (w : World), l[i]? = some x → Sem.run PD (Instr.index 9 (.string (bs l)) (.int .i64 i)) w = .ok (.int .u8 (x.toNat : Int)) w) := fun i x w h => bs_index h w
  have HEX : Hid (∀ a b : Nat, (bs l).extract a b = bs ((l.drop a).take (b - a))) := fun a b => bs_extract l a b
  generalize hs : bs l = s at hsz HIX HEX ⊢
  have HS := Lib.hid hs
  clear hs hl hln
  go_enter Tryd.func57, Tryd.ntmps57
  have t3 := Tryd.underlying3
  have u3 := Tryd.runUnderlying3
  have g3 := Tryd.isAgg3
  have z3 := Tryd.sizeOf3
  have t4 := Tryd.underlying4
  have u4 := Tryd.runUnderlying4
  have g4 := Tryd.isAgg4
  have z4 := Tryd.sizeOf4
  have t5 := Tryd.underlying5
  have u5 := Tryd.runUnderlying5
  have g5 := Tryd.isAgg5
  have z5 := Tryd.sizeOf5
  have t9 := Tryd.underlying9
  have u9 := Tryd.runUnderlying9
  have g9 := Tryd.isAgg9
  have z9 := Tryd.sizeOf9
  have t68 := Tryd.underlying68
  have u68 := Tryd.runUnderlying68
  have g68 := Tryd.isAgg68
  have z68 := Tryd.sizeOf68
  have v9 := zero9
  have mixed : Tryd.prog.follows .mixedOrders = true := by kernel_rfl
  have hP : Tryd.prog = PD := rfl
  rw [hP] at t3 u3 g3 z3 t4 u4 g4 z4 t5 u5 g5 z5 t9 u9 g9 z9 t68 u68 g68 z68 v9 mixed ⊢
  have HP := Lib.hid hP.symm
  clear hP 
  go_wp2_with fail
  go_loopg [5, 6, 7] (ln + 1) (fun g s5 s6 s7 wr => ∃ (a : Option Addr) (n cap f i : Nat), s5 = .slice a n cap ∧ s6 = .int .i64 f ∧ s7 = .int .i64 i ∧ f ≤ i ∧ i ≤ ln ∧ ln - i < g ∧ n ≤ i ∧ Hid (∃ done, splitc c l = done ++ splitc c (l.drop f) ∧ done.length = n ∧ (∀ j x, f ≤ j → j < i → l[j]? = some x → x ≠ c) ∧ wr.ownsRow w.heap.size 9 1 (.slice a n cap) n (strs (done.map bs)) ∧ Fr No w wr))
  case atStart => exact ⟨none, 0, 0, 0, 0, rfl, by go_num, by go_num, by omega, by omega, by omega, by omega, [], rfl, rfl, fun j x h1 h2 => by omega, World.ownsRow_nil _ _ _ _, Fr.refl _ _⟩
  case round =>
    obtain ⟨a, n, cap, f, i, rfl, rfl, rfl, hfi, hil, hig, hni, HR⟩ := hrel
    obtain ⟨done, h1, h2, h3, h4, h5⟩ := HR.out
    have q1 : (0 : Int) ≤ (f : Int) := by omega
    have q2 : (f : Int) ≤ (i : Int) := by omega
    have q3 : (i : Int) ≤ (ln : Int) := by omega
    by_cases hi : i = ln
    · subst hi
      have HSP : Hid (splitc c l = done ++ [(l.drop f).take (i - f)]) := by
        have h6 := split_end h1 (fun j x ha hb => h3 j x ha (by rw [HLN.out] at hb; exact hb))
        rw [List.take_of_length_le (by rw [List.length_drop, HLN.out]; exact Nat.le_refl _)]
        exact h6
      have HX := Lib.hid (And.intro h4 (And.intro h2 (And.intro h5 h5.size)))
      have he := HEX.out f i
      have hbk := heap_alloc_new wr (.cells #[.string (s.extract f i)] 9)
      have hbf := Fr.alloc No wr (.cells #[.string (s.extract f i)] 9)
      rw [he] at hbk hbf
      have HB := Lib.hid (And.intro hbk hbf)
      clear h1 h2 h3 h4 h5 HR hbk hbf
      have HE := Lib.hid he
      clear he
      go_wp2_with (first | (at_builtin; go_loud (rw [HE.out]; refine wpList_append_vals elS rfl (.tmp 28) (.tmp 32) rfl w.heap.size _ n _ rfl (row_frNo HX.out.1 HB.out.2) (some ⟨wr.heap.size, 0, none⟩) 1 1 [Value.string (bs ((l.drop f).take (i - f)))] rfl (by simp [Value.oneCell']) rfl (At.block HB.out.1) (fun h => by cases h) (by unfold maxLen; omega) (by omega) (Nat.le_trans HX.out.2.2.2 HB.out.2.size) ?_; intro a6 c6 w6 hown6 hg6 hat6; have H6 : Hid (w6.ownsRow w.heap.size 9 1 (.slice a6 (n + 1) c6) (n + 1) (strs ((done ++ [(l.drop f).take (i - f)]).map bs)) ∧ Fr No w w6) := ⟨(by rw [List.map_append, strs_append]; exact hown6), (HX.out.2.2.1.trans HB.out.2).own_grown (row_frNo HX.out.1 HB.out.2) (Nat.le_refl _) hg6⟩; clear hown6 hg6 hat6)) | fail)
      go_ret
      refine ⟨a6, c6, ?_, ?_, H6.out.2⟩
      · rw [HSP.out, List.length_append, HX.out.2.1]; rfl
      · rw [HSP.out, List.length_append, HX.out.2.1]; exact H6.out.1
    · obtain ⟨x, hx⟩ : ∃ x, l[i]? = some x := ⟨_, List.getElem?_eq_getElem (by rw [HLN.out]; omega)⟩
      have hix := HIX.out i x wr hx
      have q4 : (i : Int) < (ln : Int) := by omega
      by_cases hxc : x = c
      · subst hxc
        have HSP : Hid (splitc x l = (done ++ [(l.drop f).take (i - f)]) ++ splitc x (l.drop (i + 1))) := split_hit h1 hfi h3 hx
        have HX := Lib.hid (And.intro h4 (And.intro h2 (And.intro h5 h5.size)))
        have he := HEX.out f i
        have hbk := heap_alloc_new wr (.cells #[.string (s.extract f i)] 9)
        have hbf := Fr.alloc No wr (.cells #[.string (s.extract f i)] 9)
        rw [he] at hbk hbf
        have HB := Lib.hid (And.intro hbk hbf)
        clear h1 h2 h3 h4 h5 HR hbk hbf
        have HE := Lib.hid he
        clear he
        go_wp2_with (first | (at_builtin; go_loud (rw [HE.out]; refine wpList_append_vals elS rfl (.tmp 19) (.tmp 24) rfl w.heap.size _ n _ rfl (row_frNo HX.out.1 HB.out.2) (some ⟨wr.heap.size, 0, none⟩) 1 1 [Value.string (bs ((l.drop f).take (i - f)))] rfl (by simp [Value.oneCell']) rfl (At.block HB.out.1) (fun h => by cases h) (by unfold maxLen; omega) (by omega) (Nat.le_trans HX.out.2.2.2 HB.out.2.size) ?_; intro a6 c6 w6 hown6 hg6 hat6; have H6 : Hid (w6.ownsRow w.heap.size 9 1 (.slice a6 (n + 1) c6) (n + 1) (strs ((done ++ [(l.drop f).take (i - f)]).map bs)) ∧ Fr No w w6) := ⟨(by rw [List.map_append, strs_append]; exact hown6), (HX.out.2.2.1.trans HB.out.2).own_grown (row_frNo HX.out.1 HB.out.2) (Nat.le_refl _) hg6⟩; clear hown6 hg6 hat6)) | fail)
        go_roundg (ln - i)
        case measure => exact hig
        case rel => exact ⟨a6, n + 1, c6, i + 1, i + 1, rfl, by go_num, by go_num, by omega, by omega, by omega, by omega, done ++ [(l.drop f).take (i - f)], HSP.out, by rw [List.length_append, HX.out.2.1]; rfl, fun j y h1 h2 => by omega, H6.out.1, H6.out.2⟩
      · have p1 : ¬ (x.toNat : Int) = (c.toNat : Int) := fun e => hxc (UInt8.toNat_inj.1 (Int.ofNat_inj.1 e))
        go_wp2_with fail
        go_roundg (ln - i)
        case measure => exact hig
        case rel =>
          refine ⟨a, n, cap, f, i + 1, rfl, rfl, by go_num, by omega, by omega, by omega, by omega, done, h1, h2, ?_, h4, h5⟩
          intro j y hj1 hj2 hy
          by_cases hji : j = i
          · subst hji; rw [hx] at hy; cases hy; exact hxc
          · exact h3 j y hj1 (by omega) hy
end Go.Proofs.YtdnfmilihfkhmaaDoor
