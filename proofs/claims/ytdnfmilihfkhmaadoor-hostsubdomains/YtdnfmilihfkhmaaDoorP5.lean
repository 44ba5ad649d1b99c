/-
  CONTRACTS of parseGroups, over this seat's translation: what the call returns.
  Conditions: the string is shorter than 2 to the 31; the package variables are as Glob says.
-/
import Derived.Test.YtdnfmilihfkhmaaDoorP4
namespace Go.Proofs.YtdnfmilihfkhmaaDoor
open Go.ChangeShapes Go.WideShapes Go.ChangeAt Go.RowKit
set_option linter.unusedVariables false

theorem hexGo_dot : ∀ (l : List UInt8) (acc : Nat), l.contains 46 = true → hexGo acc l = none
  | [], acc, h => by simp at h
  | c :: r, acc, h => by
    rw [hexGo]
    by_cases hc : c = 46
    · subst hc; rfl
    · have hr : r.contains 46 = true := by
        rw [List.contains_cons] at h
        simpa [show ¬ (46 : UInt8) = c from fun e => hc e.symm] using h
      cases hexDig c with
      | none => rfl
      | some d => exact hexGo_dot r _ hr
theorem hexV_dot {l : List UInt8} (h : l.contains 46 = true) : hexV l = none := by
  unfold hexV
  split
  · rfl
  · exact hexGo_dot l 0 h
theorem cutc_contains {c : UInt8} : ∀ {l : List UInt8} {p : List UInt8 × List UInt8}, cutc c l = some p → l.contains c = true
  | [], p, h => by cases h
  | x :: l, p, h => by
    rw [cutc] at h
    rw [List.contains_cons]
    split at h
    · rename_i hx; subst hx; simp
    · obtain ⟨q, hq, _⟩ := Option.map_eq_some_iff.1 h
      rw [cutc_contains hq]; simp
theorem par_dot {l : List UInt8} {xs : List Nat} (h : par 3 l = some xs) : l.contains 46 = true := by
  rw [par] at h
  split at h
  · cases h
  · rename_i hc
    exact cutc_contains hc

theorem two_length (xs : List Nat) : (two xs).length ≤ 2 := by
  unfold two
  split <;> simp

/-- The last part. -/
theorem grp_last {mixed : Bool} {r : List UInt8} (hc : cutc 58 r = none) : grpGo mixed (splitc 58 r) = match (if mixed then par 3 r else none) with
    | some xs => some (two xs)
    | none => (hexV r).map fun g => [g] := by
  rw [split_cut, hc]
  rfl
theorem grp_more {mixed : Bool} {r a b : List UInt8} (hc : cutc 58 r = some (a, b)) : grpGo mixed (splitc 58 r) = match hexV a, grpGo mixed (splitc 58 b) with
    | some g, some gs => some (g :: gs)
    | _, _ => none := by
  rw [split_cut, hc]
  simp only []
  cases hs : splitc 58 b with
  | nil => exact absurd hs (split_ne _ _)
  | cons q t => rfl

/-- Where the loop is. -/
def InvG (mixed : Bool) (l r : List UInt8) (gs : List Nat) (more : Bool) : Prop := r.length ≤ l.length ∧ (∀ g ∈ gs, g < 65536) ∧ (more = false → grpP mixed l = some gs) ∧ (more = true → grpP mixed l = (grpGo mixed (splitc 58 r)).map fun t => gs ++ t)

theorem InvG.start (mixed : Bool) (l : List UInt8) : InvG mixed l l [] (decide (l ≠ [])) := by
  refine ⟨Nat.le_refl _, by simp, ?_, ?_⟩
  · intro h
    have : l = [] := by simpa using h
    subst this
    rfl
  · intro h
    have : l ≠ [] := by simpa using h
    rw [grpP, if_neg this]
    simp

theorem tup_some {o : Option (List Nat)} {gs ys : List Nat} (h : o = some ys) : o.map (fun t => gs ++ t) = some (gs ++ ys) := by rw [h]; rfl

set_option maxHeartbeats 4000000 in
set_option maxRecDepth 100000 in
theorem parseGroups_any (l : List UInt8) (mixed : Bool) (w : World) (hG : Glob w) (hl : l.length < 2147483648) :
    Calls Tryd.prog 69 #[.string (bs l), .bool mixed] w fun e w' => Fr No w w' ∧ GrpO w w' (grpP mixed l) e := by
  have hemp : (!(bs l).toList.isEmpty) = decide (l ≠ []) := by
    rw [bs_toList]
    cases l <;> simp
  have HE := Lib.hid (And.intro hG (And.intro hl hemp))
  clear hG hl hemp
  go_enter Tryd.func69, Tryd.ntmps69
  go_wp2_with fail
  rw [HE.out.2.2]
  obtain ⟨mo, hmo⟩ : ∃ mo, decide (l ≠ []) = mo := ⟨_, rfl⟩
  rw [hmo]
  have HMO := Lib.hid hmo
  clear hmo
  go_loopg [0, 6, 7] (l.length + 2) (fun g s0 s6 s7 wr => ∃ (n cap : Nat) (ar : Option Addr) (r : List UInt8) (gs : List Nat) (more : Bool), s0 = .string (bs r) ∧ s6 = .slice ar n cap ∧ s7 = .bool more ∧ n ≤ 8 ∧ (0 < g ∧ (more = true → r.length + 1 < g)) ∧ Hid (gs.length = n ∧ InvG mixed l r gs more ∧ wr.ownsRow w.heap.size 39 1 (.slice ar n cap) n (nums .u16 gs) ∧ Fr No w wr))
  case atStart => exact ⟨0, 0, none, l, [], mo, rfl, rfl, rfl, by omega, ⟨by omega, fun _ => by omega⟩, rfl, HMO.out ▸ InvG.start mixed l, World.ownsRow_nil _ _ _ _, Fr.refl _ _⟩
  case round =>
    obtain ⟨n, cap, ar, r, gs, more, rfl, rfl, rfl, hn8, hgm, HR⟩ := hrel
    cases more
    · go_wp2_with fail
      go_ret2
      exact ⟨HR.out.2.2.2, .inl ⟨gs, HR.out.2.1.2.2.1 rfl, (by rw [HR.out.1]; omega), ar, n, cap, HR.out.1, rfl, HR.out.2.2.1⟩⟩
    · have hrg := hgm.2 rfl
      have hrl : r.length < 2147483648 := by have := HR.out.2.1.1; have := HE.out.2.1; omega
      have HI := Lib.hid (And.intro (HR.out.2.1.2.2.2 rfl) (And.intro HR.out.2.1.1 HR.out.2.1.2.1))
      have HLN := Lib.hid (And.intro HR.out.1 hrl)
      go_wp2_with fail
      refine (cut1_any r 58 _ (HE.out.1.fr HR.out.2.2.2) hrl).mono ?_
      rintro e w2 ⟨rfl, hf2⟩
      have H2 : Hid (w2.ownsRow w.heap.size 39 1 (.slice ar n cap) n (nums .u16 gs) ∧ Fr No w w2) := ⟨row_frNo HR.out.2.2.1 hf2, HR.out.2.2.2.trans hf2⟩
      clear hf2 HR hrl
      cases hc : cutc 58 r with
      | none =>
        have HGL := Lib.hid (grp_last (mixed := mixed) hc)
        simp only [cutR]
        clear hc
        by_cases hv : mixed = true ∧ r.contains 46 = true
        · obtain ⟨hm, hdot⟩ := hv
          subst hm
          have HP4 := Lib.hid hdot
          go_wp2_with (first | (go_at_call 44; refine (contains_any r 46 _).mono ?_; rintro e w3 ⟨rfl, rfl⟩; rw [hdot]) | fail)
          refine (appendV4_any w ar n cap gs r _ (HE.out.1.fr H2.out.2) HLN.out.2 H2.out.2 HLN.out.1 hn8 H2.out.1).mono ?_
          rintro e w3 ⟨hf3, ⟨xs, hpx, a3, m3, cp3, hm3, rfl, hown3⟩ | ⟨hpn, rfl⟩⟩
          · have H3 := Lib.hid (And.intro hf3 (And.intro hpx (And.intro hm3 hown3)))
            clear hf3 hpx hm3 hown3
            go_wp2_with fail
            go_ret2
            refine ⟨H3.out.1, .inl ⟨gs ++ two xs, ?_, (by have := two_length xs; rw [List.length_append, HLN.out.1]; omega), a3, m3, cp3, H3.out.2.2.1, rfl, H3.out.2.2.2⟩⟩
            rw [HI.out.1, HGL.out]; simp [H3.out.2.1]
          · have H3 := Lib.hid (And.intro hf3 hpn)
            clear hf3 hpn
            go_wp2_with fail
            go_ret2
            refine ⟨H3.out.1, .inr ⟨rfl, fun gs' h => ?_⟩⟩
            rw [HI.out.1, HGL.out] at h
            simp [H3.out.2, hexV_dot HP4.out] at h
        · have HSP : Hid ((hexV r = none → grpP mixed l = none) ∧ ∀ g, hexV r = some g → (gs.length = 8 → ∀ gs', grpP mixed l = some gs' → 8 < gs'.length) ∧ InvG mixed l [] (gs ++ [g]) false) := by
            have hpar : (if mixed = true then par 3 r else none) = none := by
              cases mixed with
              | false => rfl
              | true =>
                cases hp : par 3 r with
                | none => rfl
                | some xs => exact absurd ⟨rfl, par_dot hp⟩ hv
            have hgl := HGL.out
            rw [hpar] at hgl
            refine ⟨fun hg => by rw [HI.out.1, hgl, hg]; rfl, fun g hg => ?_⟩
            have he : grpP mixed l = some (gs ++ [g]) := by rw [HI.out.1, hgl, hg]; rfl
            refine ⟨fun h8 gs' h => by rw [he] at h; cases h; simp [h8], by simp, ?_, fun _ => he, fun h => by cases h⟩
            intro y hy
            rcases List.mem_append.1 hy with hy | hy
            · exact HI.out.2.2 y hy
            · simp at hy; subst hy; exact hexV_lt hg
          obtain ⟨a, ha⟩ : ∃ a, r = a := ⟨_, rfl⟩
          rw [ha] at HSP hv hrg ⊢
          clear HGL
          cases mixed
          · clear hv
            go_wp2_with fail
            refine (parseGroup_any a _ (HE.out.1.fr H2.out.2)).mono ?_
            rintro e w3 ⟨rfl, hf3⟩
            have H3 : Hid (w3.ownsRow w.heap.size 39 1 (.slice ar n cap) n (nums .u16 gs) ∧ Fr No w w3) := ⟨row_frNo H2.out.1 hf3, H2.out.2.trans hf3⟩
            clear hf3 H2
            cases hg : hexV a with
            | none =>
              have HN := Lib.hid (HSP.out.1 hg)
              clear hg
              simp only [optV, optB]
              go_wp2_with fail
              go_ret2
              exact ⟨H3.out.2, .inr ⟨rfl, fun gs' h => by rw [HN.out] at h; cases h⟩⟩
            | some g =>
              have hg6 := hexV_lt hg
              have HSG := Lib.hid (HSP.out.2 g hg)
              clear hg HSP
              simp only [optV, optB]
              by_cases h8 : n = 8
              · subst h8
                go_wp2_with fail
                go_ret2
                exact ⟨H3.out.2, .inr ⟨rfl, fun gs' h => HSG.out.1 HLN.out.1 gs' h⟩⟩
              · have p8 : ¬ (n : Int) = 8 := by omega
                go_wp2_with (first | (at_builtin; refine wpList_append_vals el16 rfl (.tmp 46) (.tmp 48) rfl w.heap.size _ n _ rfl (row_frNo H3.out.1 (Fr.alloc No _ _)) _ 1 1 (nums .u16 [g]) rfl (nums_one _ _) rfl (At.block (heap_alloc_new _ _)) (fun h => by cases h) (by unfold maxLen; omega) (by omega) (Nat.le_trans H3.out.2.size (Fr.alloc No _ _).size) ?_; intro a4 cp4 w4 hown4 hg4 hat4; have H4 : Hid (w4.ownsRow w.heap.size 39 1 (.slice a4 (n + 1) cp4) (n + 1) (nums .u16 (gs ++ [g])) ∧ Fr No w w4) := ⟨(by rw [nums_append]; exact hown4), (H3.out.2.trans (Fr.alloc No _ _)).own_grown (row_frNo H3.out.1 (Fr.alloc No _ _)) (Nat.le_refl _) hg4⟩; clear hown4 hg4 hat4) | fail)
                go_roundg 1
                case measure => exact (by omega)
                case rel => exact ⟨n + 1, cp4, a4, [], gs ++ [g], false, rfl, rfl, rfl, by omega, ⟨by omega, fun h => by cases h⟩, by simp [HLN.out.1], HSG.out.2, H4.out⟩
          · have hdot : a.contains 46 = false := by
              cases h : a.contains 46 with
              | false => rfl
              | true => exact absurd ⟨rfl, h⟩ hv
            clear hv
            go_wp2_with (first | (go_at_call 44; refine (contains_any a 46 _).mono ?_; rintro e w3 ⟨rfl, rfl⟩; rw [hdot]) | fail)
            refine (parseGroup_any a _ (HE.out.1.fr H2.out.2)).mono ?_
            rintro e w3 ⟨rfl, hf3⟩
            have H3 : Hid (w3.ownsRow w.heap.size 39 1 (.slice ar n cap) n (nums .u16 gs) ∧ Fr No w w3) := ⟨row_frNo H2.out.1 hf3, H2.out.2.trans hf3⟩
            clear hf3 H2
            cases hg : hexV a with
            | none =>
              have HN := Lib.hid (HSP.out.1 hg)
              clear hg
              simp only [optV, optB]
              go_wp2_with fail
              go_ret2
              exact ⟨H3.out.2, .inr ⟨rfl, fun gs' h => by rw [HN.out] at h; cases h⟩⟩
            | some g =>
              have hg6 := hexV_lt hg
              have HSG := Lib.hid (HSP.out.2 g hg)
              clear hg HSP
              simp only [optV, optB]
              by_cases h8 : n = 8
              · subst h8
                go_wp2_with fail
                go_ret2
                exact ⟨H3.out.2, .inr ⟨rfl, fun gs' h => HSG.out.1 HLN.out.1 gs' h⟩⟩
              · have p8 : ¬ (n : Int) = 8 := by omega
                go_wp2_with (first | (at_builtin; refine wpList_append_vals el16 rfl (.tmp 46) (.tmp 48) rfl w.heap.size _ n _ rfl (row_frNo H3.out.1 (Fr.alloc No _ _)) _ 1 1 (nums .u16 [g]) rfl (nums_one _ _) rfl (At.block (heap_alloc_new _ _)) (fun h => by cases h) (by unfold maxLen; omega) (by omega) (Nat.le_trans H3.out.2.size (Fr.alloc No _ _).size) ?_; intro a4 cp4 w4 hown4 hg4 hat4; have H4 : Hid (w4.ownsRow w.heap.size 39 1 (.slice a4 (n + 1) cp4) (n + 1) (nums .u16 (gs ++ [g])) ∧ Fr No w w4) := ⟨(by rw [nums_append]; exact hown4), (H3.out.2.trans (Fr.alloc No _ _)).own_grown (row_frNo H3.out.1 (Fr.alloc No _ _)) (Nat.le_refl _) hg4⟩; clear hown4 hg4 hat4) | fail)
                go_roundg 1
                case measure => exact (by omega)
                case rel => exact ⟨n + 1, cp4, a4, [], gs ++ [g], false, rfl, rfl, rfl, by omega, ⟨by omega, fun h => by cases h⟩, by simp [HLN.out.1], HSG.out.2, H4.out⟩
      | some p =>
        obtain ⟨a, b⟩ := p
        have hlen := cutc_length hc
        have HGM := Lib.hid (grp_more (mixed := mixed) hc)
        simp only [cutR]
        have HSP : Hid ((hexV a = none → grpP mixed l = none) ∧ ∀ g, hexV a = some g → (gs.length = 8 → ∀ gs', grpP mixed l = some gs' → 8 < gs'.length) ∧ InvG mixed l b (gs ++ [g]) true) := by
          refine ⟨fun hg => by rw [HI.out.1, HGM.out, hg]; rfl, fun g hg => ?_⟩
          have he : grpP mixed l = (grpGo mixed (splitc 58 b)).map fun t => (gs ++ [g]) ++ t := by
            rw [HI.out.1, HGM.out, hg]
            cases grpGo mixed (splitc 58 b) <;> simp
          refine ⟨fun h8 gs' h => ?_, (by have := HI.out.2.1; omega), ?_, (fun h => by cases h), fun _ => he⟩
          · rw [he] at h
            obtain ⟨t, _, rfl⟩ := Option.map_eq_some_iff.1 h
            simp [h8]
          · intro y hy
            rcases List.mem_append.1 hy with hy | hy
            · exact HI.out.2.2 y hy
            · simp at hy; subst hy; exact hexV_lt hg
        clear HGM hc
        cases mixed
        · go_wp2_with fail
          refine (parseGroup_any a _ (HE.out.1.fr H2.out.2)).mono ?_
          rintro e w3 ⟨rfl, hf3⟩
          have H3 : Hid (w3.ownsRow w.heap.size 39 1 (.slice ar n cap) n (nums .u16 gs) ∧ Fr No w w3) := ⟨row_frNo H2.out.1 hf3, H2.out.2.trans hf3⟩
          clear hf3 H2
          cases hg : hexV a with
          | none =>
            have HN := Lib.hid (HSP.out.1 hg)
            clear hg
            simp only [optV, optB]
            go_wp2_with fail
            go_ret2
            exact ⟨H3.out.2, .inr ⟨rfl, fun gs' h => by rw [HN.out] at h; cases h⟩⟩
          | some g =>
            have hg6 := hexV_lt hg
            have HSG := Lib.hid (HSP.out.2 g hg)
            clear hg HSP
            simp only [optV, optB]
            by_cases h8 : n = 8
            · subst h8
              go_wp2_with fail
              go_ret2
              exact ⟨H3.out.2, .inr ⟨rfl, fun gs' h => HSG.out.1 HLN.out.1 gs' h⟩⟩
            · have p8 : ¬ (n : Int) = 8 := by omega
              go_wp2_with (first | (at_builtin; refine wpList_append_vals el16 rfl (.tmp 46) (.tmp 48) rfl w.heap.size _ n _ rfl (row_frNo H3.out.1 (Fr.alloc No _ _)) _ 1 1 (nums .u16 [g]) rfl (nums_one _ _) rfl (At.block (heap_alloc_new _ _)) (fun h => by cases h) (by unfold maxLen; omega) (by omega) (Nat.le_trans H3.out.2.size (Fr.alloc No _ _).size) ?_; intro a4 cp4 w4 hown4 hg4 hat4; have H4 : Hid (w4.ownsRow w.heap.size 39 1 (.slice a4 (n + 1) cp4) (n + 1) (nums .u16 (gs ++ [g])) ∧ Fr No w w4) := ⟨(by rw [nums_append]; exact hown4), (H3.out.2.trans (Fr.alloc No _ _)).own_grown (row_frNo H3.out.1 (Fr.alloc No _ _)) (Nat.le_refl _) hg4⟩; clear hown4 hg4 hat4) | fail)
              go_roundg (b.length + 2)
              case measure => exact (by omega)
              case rel => exact ⟨n + 1, cp4, a4, b, gs ++ [g], true, rfl, rfl, rfl, by omega, ⟨by omega, fun _ => by omega⟩, by simp [HLN.out.1], HSG.out.2, H4.out⟩
        · go_wp2_with fail
          refine (parseGroup_any a _ (HE.out.1.fr H2.out.2)).mono ?_
          rintro e w3 ⟨rfl, hf3⟩
          have H3 : Hid (w3.ownsRow w.heap.size 39 1 (.slice ar n cap) n (nums .u16 gs) ∧ Fr No w w3) := ⟨row_frNo H2.out.1 hf3, H2.out.2.trans hf3⟩
          clear hf3 H2
          cases hg : hexV a with
          | none =>
            have HN := Lib.hid (HSP.out.1 hg)
            clear hg
            simp only [optV, optB]
            go_wp2_with fail
            go_ret2
            exact ⟨H3.out.2, .inr ⟨rfl, fun gs' h => by rw [HN.out] at h; cases h⟩⟩
          | some g =>
            have hg6 := hexV_lt hg
            have HSG := Lib.hid (HSP.out.2 g hg)
            clear hg HSP
            simp only [optV, optB]
            by_cases h8 : n = 8
            · subst h8
              go_wp2_with fail
              go_ret2
              exact ⟨H3.out.2, .inr ⟨rfl, fun gs' h => HSG.out.1 HLN.out.1 gs' h⟩⟩
            · have p8 : ¬ (n : Int) = 8 := by omega
              go_wp2_with (first | (at_builtin; refine wpList_append_vals el16 rfl (.tmp 46) (.tmp 48) rfl w.heap.size _ n _ rfl (row_frNo H3.out.1 (Fr.alloc No _ _)) _ 1 1 (nums .u16 [g]) rfl (nums_one _ _) rfl (At.block (heap_alloc_new _ _)) (fun h => by cases h) (by unfold maxLen; omega) (by omega) (Nat.le_trans H3.out.2.size (Fr.alloc No _ _).size) ?_; intro a4 cp4 w4 hown4 hg4 hat4; have H4 : Hid (w4.ownsRow w.heap.size 39 1 (.slice a4 (n + 1) cp4) (n + 1) (nums .u16 (gs ++ [g])) ∧ Fr No w w4) := ⟨(by rw [nums_append]; exact hown4), (H3.out.2.trans (Fr.alloc No _ _)).own_grown (row_frNo H3.out.1 (Fr.alloc No _ _)) (Nat.le_refl _) hg4⟩; clear hown4 hg4 hat4) | fail)
              go_roundg (b.length + 2)
              case measure => exact (by omega)
              case rel => exact ⟨n + 1, cp4, a4, b, gs ++ [g], true, rfl, rfl, rfl, by omega, ⟨by omega, fun _ => by omega⟩, by simp [HLN.out.1], HSG.out.2, H4.out⟩
end Go.Proofs.YtdnfmilihfkhmaaDoor
