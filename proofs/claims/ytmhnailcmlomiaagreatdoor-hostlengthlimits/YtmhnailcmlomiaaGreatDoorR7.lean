/-
  CONTRACTS of the reference's parseGroups, over this seat's translation: what the call returns.
  Conditions: the string is shorter than 2 to the 31.
-/
import Derived.Test.YtmhnailcmlomiaaGreatDoorR4
import Derived.Test.YtmhnailcmlomiaaGreatDoorR5
import Derived.Test.YtmhnailcmlomiaaGreatDoorP5
namespace Go.Proofs.YtmhnailcmlomiaaGreatDoor
open Go.ChangeShapes Go.WideShapes Go.ChangeAt Go.RowKit
set_option linter.unusedVariables false

theorem grpGo_one (last : Bool) (p : List UInt8) : grpGo last [p] = match (if last then par 3 p else none) with
    | some xs => some (two xs)
    | none => (hexV p).map fun g => [g] := by
  rw [grpGo]
  generalize (if last = true then par 3 p else none) = o
  cases o <;> rfl
theorem grpGo_more (last : Bool) (p : List UInt8) {r : List (List UInt8)} (h : r ≠ []) : grpGo last (p :: r) = match hexV p, grpGo last r with
    | some g, some gs => some (g :: gs)
    | _, _ => none := by
  match r, h with
  | q :: r, _ => rw [grpGo]; cases hexV p <;> cases grpGo last (q :: r) <;> rfl
theorem two_quad {xs : List Nat} (h : xs.length = 4) (hb : ∀ x ∈ xs, x < 256) : ∃ a b c d, xs = [a, b, c, d] ∧ a < 256 ∧ b < 256 ∧ c < 256 ∧ d < 256 := by
  match xs, h with
  | [a, b, c, d], _ => exact ⟨a, b, c, d, rfl, hb a (by simp), hb b (by simp), hb c (by simp), hb d (by simp)⟩

/-- What parseGroups hands back: the groups in a row of its own, or nothing. -/
def GrpQ (w0 w : World) (o : Option (List Nat)) (e : Ending) : Prop := (∃ gs a n cap, o = some gs ∧ gs.length = n ∧ e = .returned (.tuple #[.slice a n cap, .bool true]) ∧ w.ownsRow w0.heap.size 93 1 (.slice a n cap) n (nums .u16 gs)) ∨ (o = none ∧ e = .returned (.tuple #[.slice none 0 0, .bool false]))

theorem zero93 : ∀ w, (zeroValue 93).run Tryz.prog w = .ok (.int .u16 0) w := by
  intro w
  kernel_rfl
theorem sh8 {a b : Nat} (ha : a < 256) (hb : b < 256) : bits .or .u16 (IntKind.u16.wrap ((a : Int) * 256)) (b : Int) = ((a * 256 + b : Nat) : Int) := by
  rw [show IntKind.u16.wrap ((a : Int) * 256) = (a : Int) * 256 by simp [IntKind.wrap, IntKind.bits, IntKind.signed]; omega]
  exact or_group' ha hb

theorem row_base {w : World} {b b' e K n : Nat} {v : Value} {xs : List Value} (h : w.ownsRow b e K v n xs) (hb : b' ≤ b) : w.ownsRow b' e K v n xs := by
  refine ⟨h.1, ?_⟩
  rcases h.2 with h1 | ⟨g, cap, cur, hv, hb', hg, hr⟩
  · exact .inl h1
  · exact .inr ⟨g, cap, cur, hv, Nat.le_trans hb hb', hg, hr⟩

set_option maxHeartbeats 8000000 in
set_option maxRecDepth 100000 in
theorem pgrps_ref (l : List UInt8) (last : Bool) (hl : l.length < 2147483648) (w : World) :
    Calls Tryz.prog 95 #[.string (bs l), .bool last] w fun e w' => GrpQ w w' (grpP last l) e ∧ Fr No w w' := by
  have hemp := bs_isEmpty l
  by_cases hne : l = []
  · subst hne
    have he : (bs []).toList.isEmpty = true := hemp
    generalize bs [] = s at he ⊢
    clear hemp hl
    go_enter Tryz.func95, Tryz.ntmps95
    go_wp2_with fail
    go_ret2
    exact ⟨.inl ⟨[], none, 0, 0, rfl, rfl, rfl, World.ownsRow_nil _ _ _ _⟩, Fr.refl _ _⟩
  · have he : (bs l).toList.isEmpty = false := by rw [hemp]; cases l with
      | nil => exact absurd rfl hne
      | cons x r => rfl
    have v24 := zero30
    obtain ⟨Z, hZ⟩ : ∃ Z : Array Value, (adr false zeros).toArray = Z := ⟨_, rfl⟩
    rw [hZ] at v24
    have hz1 : Z.size = 17 := by rw [← hZ]; rfl
    have HSP := Lib.hid (fun w => split_ref l 58 hl w)
    have HP4 : Hid (∀ (p : List UInt8) (w : World), p.length ≤ l.length → Calls Tryz.prog 76 #[.string (bs p)] w fun e w' => e = .returned (.tuple #[.agg (adr false (quad (par 3 p))).toArray, .bool (isQ (par 3 p))]) ∧ Fr No w w') := fun p w h => pipv4_ref p (by omega) w
    have HPG := Lib.hid pgrp_ref
    have HGP : Hid (grpP last l = grpGo last (splitc 58 l)) := by show _ = _; rw [grpP, if_neg hne]
    have hnp := split_ne 58 l
    have HMEM : Hid (∀ p ∈ splitc 58 l, p.length ≤ l.length) := fun p hp => splitc_mem hp
    have hsl := splitc_len 58 l
    generalize bs l = s at he HSP ⊢
    generalize hps : splitc 58 l = ps at HSP HGP hnp HMEM hsl
    generalize hpl : ps.length = k at HSP hsl
    have hk31 : k ≤ 2147483648 := by omega
    have HPL := Lib.hid (And.intro hpl hnp)
    have hk0 : 0 < k := by rw [← hpl]; exact List.length_pos_iff.2 hnp
    have HZ := Lib.hid (And.intro hZ hz1)
    clear hemp hne hps hpl hnp hsl hl hZ
    go_enter Tryz.func95, Tryz.ntmps95
    have t3 := Tryz.underlying3
    have u3 := Tryz.runUnderlying3
    have g3 := Tryz.isAgg3
    have z3 := Tryz.sizeOf3
    have t4 := Tryz.underlying4
    have u4 := Tryz.runUnderlying4
    have g4 := Tryz.isAgg4
    have z4 := Tryz.sizeOf4
    have t5 := Tryz.underlying5
    have u5 := Tryz.runUnderlying5
    have g5 := Tryz.isAgg5
    have z5 := Tryz.sizeOf5
    have t9 := Tryz.underlying9
    have u9 := Tryz.runUnderlying9
    have g9 := Tryz.isAgg9
    have z9 := Tryz.sizeOf9
    have t28 := Tryz.underlying28
    have u28 := Tryz.runUnderlying28
    have g28 := Tryz.isAgg28
    have z28 := Tryz.sizeOf28
    have t30 := Tryz.underlying30
    have u30 := Tryz.runUnderlying30
    have g30 := Tryz.isAgg30
    have z30 := Tryz.sizeOf30
    have t69 := Tryz.underlying69
    have u69 := Tryz.runUnderlying69
    have g69 := Tryz.isAgg69
    have z69 := Tryz.sizeOf69
    have t89 := Tryz.underlying89
    have u89 := Tryz.runUnderlying89
    have g89 := Tryz.isAgg89
    have z89 := Tryz.sizeOf89
    have t93 := Tryz.underlying93
    have u93 := Tryz.runUnderlying93
    have g93 := Tryz.isAgg93
    have z93 := Tryz.sizeOf93
    have t75 := Tryz.underlying75
    have u75 := Tryz.runUnderlying75
    have g75 := Tryz.isAgg75
    have z75 := Tryz.sizeOf75
    have c68 := Tryz.call68
    have c76 := Tryz.call76
    have c115 := Tryz.call115
    have v93 := zero93
    have mixed : Tryz.prog.follows .mixedOrders = true := by kernel_rfl
    obtain ⟨k24, hk24⟩ : ∃ k, k = 17 := ⟨_, rfl⟩
    rw [← hk24] at z30
    have nk24 : ¬ k24 = 0 := by omega
    have HK30 := Lib.hid hk24
    have hP : Tryz.prog = PD := rfl
    rw [hP] at t3 u3 g3 z3 t4 u4 g4 z4 t5 u5 g5 z5 t9 u9 g9 z9 t28 u28 g28 z28 t30 u30 g30 z30 t69 u69 g69 z69 t89 u89 g89 z89 t93 u93 g93 z93 t75 u75 g75 z75 c68 c76 c115 v93 mixed v24 ⊢
    have HP := Lib.hid hP.symm
    clear hP hk24
    have hzk : Z.size = k24 := by rw [HK30.out]; exact hz1
    clear hz1
    go_wp2_with fail
    refine (at_prog HP.out (HSP.out w)).mono ?_
    rintro e w1 ⟨a, cap, rfl, hown, hf⟩
    have HW := Lib.hid (And.intro (At.own hown) hf)
    clear hown hf
    obtain ⟨p0, hp0⟩ : ∃ p0, ps[0]? = some p0 := ⟨_, List.getElem?_eq_getElem (by rw [HPL.out.1]; omega)⟩
    obtain ⟨ab, ao, rfl, -⟩ := strs_at (i := 0) HW.out.1 (by rw [List.getElem?_map, hp0]; rfl)
    clear hp0
    go_wp2_with fail
    go_loopg [6, 8] (k + 1) (fun g s6 s8 wr => ∃ (ar : Option Addr) (n cap2 i : Nat), s6 = .slice ar n cap2 ∧ s8 = .int .i64 i ∧ i ≤ k ∧ k - i < g ∧ n ≤ 2 * i ∧ Hid (∃ gs : List Nat, gs.length = n ∧ (i < k → grpP last l = (grpGo last (ps.drop i)).map fun t => gs ++ t) ∧ (i = k → grpP last l = some gs) ∧ wr.ownsRow w1.heap.size 93 1 (.slice ar n cap2) n (nums .u16 gs) ∧ Fr No w1 wr))
    case atStart =>
      refine ⟨none, 0, 0, 0, rfl, by go_num, by omega, by omega, by omega, [], rfl, fun _ => ?_, fun h => by omega, World.ownsRow_nil _ _ _ _, Fr.refl _ _⟩
      rw [HGP.out, List.drop_zero]
      cases grpGo last ps <;> rfl
    case round =>
      obtain ⟨ar, n, cap2, i, rfl, rfl, hik, hig, hn2, HR⟩ := hrel
      obtain ⟨gs, hgl, hlt, heq, hown, hfr⟩ := HR.out
      have q1 : (0 : Int) ≤ (i : Int) := by omega
      by_cases hi : i = k
      · subst hi
        have HV := Lib.hid (And.intro (heq rfl) (And.intro hgl (And.intro (row_base hown HW.out.2.size) (HW.out.2.trans hfr))))
        clear hlt heq hgl hown hfr HR
        go_wp2_with fail
        go_ret2
        exact ⟨.inl ⟨gs, ar, n, cap2, HV.out.1, HV.out.2.1, rfl, HV.out.2.2.1⟩, HV.out.2.2.2⟩
      · have q2 : (i : Int) < (k : Int) := by omega
        obtain ⟨p, hp⟩ : ∃ p, ps[i]? = some p := ⟨_, List.getElem?_eq_getElem (by rw [HPL.out.1]; omega)⟩
        have hdrop : ps.drop i = p :: ps.drop (i + 1) := by
          obtain ⟨h1, e1⟩ := List.getElem?_eq_some_iff.1 hp
          rw [List.drop_eq_getElem_cons h1, e1]
        have HC : Hid (∀ w', Fr No w1 w' → w'.cell? ⟨ab, ao + i, none⟩ = some (.string (bs p))) := fun w' hf => by
          obtain ⟨b', o', he, hc⟩ := strs_at (i := i) (HW.out.1.frNo hf) (by rw [List.getElem?_map, hp]; rfl)
          cases he
          exact hc
        have c1 := HC.out wr hfr
        have hpm := HMEM.out p (List.mem_of_getElem? hp)
        have hpar4 := par_length 3 p
        have hparb := par_lt 3 p
        have HH := Lib.hid (And.intro hgl (And.intro (hlt (by omega)) (And.intro hown (And.intro hfr (And.intro hdrop (And.intro hpm (And.intro hpar4 hparb)))))))
        clear hgl hlt heq hown hfr hdrop hp hpm hpar4 hparb HR
        go_wp2_with fail
        refine (at_prog HP.out (HP4.out p wr HH.out.2.2.2.2.2.1)).mono ?_
        rintro e w3 ⟨rfl, hf3⟩
        have HQB : Hid (Bytes (quad (par 3 p))) := by
          cases hq : par 3 p with
          | none => exact zeros_bytes
          | some xs =>
            obtain ⟨a, b, c, d, rfl, ha, hb, hc, hd⟩ := two_quad (HH.out.2.2.2.2.2.2.1 xs hq) (HH.out.2.2.2.2.2.2.2 xs hq)
            exact v4_bytes ha hb hc hd
        have hA17 : (adr false (quad (par 3 p))).toArray.size = 17 := by rw [List.size_toArray, adr_length, HQB.out.1]
        obtain ⟨y, hst, hyb, hyf⟩ := store_all (P := PD) (adr false (quad (par 3 p))).toArray.toList (heap_alloc_new w3 (.cells Z 30)) (by rw [Array.length_toList, hA17, HZ.out.2]) (adr_one _ _)
        have hsk : (adr false (quad (par 3 p))).toArray.size = k24 := by rw [HK30.out]; exact hA17
        have HY : Hid (Fr No wr y ∧ y.heap[w3.heap.size]? = some (.cells (adr false (quad (par 3 p))).toArray 30 (0, 0))) := ⟨(hf3.trans (Fr.alloc No w3 (.cells Z 30))).ofNew hyf fun k hk => .inr (by rw [hk]; exact hf3.size), by simpa using hyb⟩
        have HY2 : Hid (y.ownsRow w1.heap.size 93 1 (.slice ar n cap2) n (nums .u16 gs) ∧ Fr No w1 y ∧ w1.heap.size ≤ y.heap.size) := ⟨row_frNo HH.out.2.2.1 HY.out.1, HH.out.2.2.2.1.trans HY.out.1, (HH.out.2.2.2.1.trans HY.out.1).size⟩
        clear hyb hyf hf3 hA17
        have cy := HC.out y HY2.out.2.1
        generalize hAA : (adr false (quad (par 3 p))).toArray = A at hst hsk HY ⊢
        have HAA := Lib.hid hAA
        clear hAA
        by_cases h4 : isQ (par 3 p) = true ∧ last = true ∧ i + 1 = k
        · obtain ⟨ho, rfl, hik1⟩ := h4
          obtain ⟨xs, hxs⟩ : ∃ xs, par 3 p = some xs := by
            cases hq : par 3 p with
            | none => rw [hq] at ho; cases ho
            | some xs => exact ⟨xs, rfl⟩
          obtain ⟨b0, b1, b2, b3, rfl, l0, l1, l2, l3⟩ := two_quad (HH.out.2.2.2.2.2.2.1 xs hxs) (HH.out.2.2.2.2.2.2.2 xs hxs)
          have HG : Hid (grpP true l = some (gs ++ [b0 * 256 + b1, b2 * 256 + b3])) := by
            show _ = _
            rw [HH.out.2.1, HH.out.2.2.2.2.1, List.drop_of_length_le (by rw [HPL.out.1]; omega), grpGo_one, if_pos rfl, hxs]
            rfl
          have e0 : A = (adr false (quad (some [b0, b1, b2, b3]))).toArray := by rw [← HAA.out, hxs]
          have HB := HY.out.2
          rw [e0] at HB
          have k0 : y.cell? ⟨w3.heap.size, 1, none⟩ = some (.int .u8 b0) := by rw [cell_of_row _ _ _ _ _ _ HB]; rfl
          have k1 : y.cell? ⟨w3.heap.size, 1 + 1, none⟩ = some (.int .u8 b1) := by rw [cell_of_row _ _ _ _ _ _ HB]; rfl
          have k2 : y.cell? ⟨w3.heap.size, 1 + 2, none⟩ = some (.int .u8 b2) := by rw [cell_of_row _ _ _ _ _ _ HB]; rfl
          have k3 : y.cell? ⟨w3.heap.size, 1 + 3, none⟩ = some (.int .u8 b3) := by rw [cell_of_row _ _ _ _ _ _ HB]; rfl
          have o1 := or_group' l0 l1
          have o2 := or_group' l2 l3
          have p1 : (i : Int) = (k : Int) - 1 := by omega
          clear hxs e0 HB
          rw [ho]
          clear ho
          have hbk := heap_alloc_new y (.cells #[.int .u16 ((b0 * 256 + b1 : Nat) : Int), .int .u16 ((b2 * 256 + b3 : Nat) : Int)] 93)
          have hbf := Fr.alloc No y (.cells #[.int .u16 ((b0 * 256 + b1 : Nat) : Int), .int .u16 ((b2 * 256 + b3 : Nat) : Int)] 93)
          have HB := Lib.hid (And.intro hbk hbf)
          clear hbk hbf
          have hc1 : ((b0 * 256 + b1 : Nat) : Int) = (b0 : Int) * 256 + (b1 : Int) := by omega
          have hc2 : ((b2 * 256 + b3 : Nat) : Int) = (b2 : Int) * 256 + (b3 : Int) := by omega
          rw [hc1, hc2] at HB
          have HC12 := Lib.hid (And.intro hc1 hc2)
          clear hc1 hc2
          go_wp2_with (first | (at_builtin; go_loud (refine wpList_append_vals el16 rfl (.tmp 41) (.tmp 62) rfl w1.heap.size _ n _ rfl (row_frNo HY2.out.1 HB.out.2) (some ⟨y.heap.size, 0, none⟩) 2 2 (nums .u16 [b0 * 256 + b1, b2 * 256 + b3]) rfl (nums_one _ _) rfl (by have h := HB.out.1; rw [← HC12.out.1, ← HC12.out.2] at h ⊢; exact At.block h) (fun h => by cases h) (by unfold maxLen; omega) (by omega) (Nat.le_trans HY2.out.2.2 HB.out.2.size) ?_; intro a6 c6 w6 hown6 hg6' hat6; have H6 : Hid (w6.ownsRow w1.heap.size 93 1 (.slice a6 (n + 2) c6) (n + 2) (nums .u16 (gs ++ [b0 * 256 + b1, b2 * 256 + b3])) ∧ Fr No w1 w6) := ⟨(by rw [nums_append]; exact hown6), (HY2.out.2.1.trans HB.out.2).own_grown (row_frNo HY2.out.1 HB.out.2) (Nat.le_refl _) hg6'⟩; clear hown6 hg6' hat6)) | fail)
          go_roundg (k - i)
          case measure => exact hig
          case rel => exact ⟨a6, n + 2, c6, i + 1, rfl, congrArg (Value.int .i64) (by omega), by omega, by omega, by omega, gs ++ [b0 * 256 + b1, b2 * 256 + b3], by rw [List.length_append, HH.out.1]; rfl, fun h => by omega, fun _ => HG.out, H6.out.1, H6.out.2⟩
        · have HN : Hid ((hexV p = none → grpP last l = none) ∧ ∀ g, hexV p = some g → (i + 1 < k → grpP last l = (grpGo last (ps.drop (i + 1))).map fun t => (gs ++ [g]) ++ t) ∧ (i + 1 = k → grpP last l = some (gs ++ [g]))) := by
            have h0 := HH.out.2.1
            rw [HH.out.2.2.2.2.1] at h0
            by_cases hik1 : i + 1 = k
            · rw [List.drop_of_length_le (l := ps) (by rw [HPL.out.1]; omega), grpGo_one] at h0
              have hc : (if last = true then par 3 p else none) = none := by
                by_cases hla : last = true
                · rw [if_pos hla]
                  cases hq : par 3 p with
                  | none => rfl
                  | some xs => exact absurd ⟨by rw [hq]; rfl, hla, hik1⟩ h4
                · rw [if_neg hla]
              rw [hc] at h0
              refine ⟨fun hg => by rw [h0, hg]; rfl, fun g hg => ⟨fun h => by omega, fun _ => by rw [h0, hg]; rfl⟩⟩
            · have hlt : i + 1 < k := by omega
              have hdn : ps.drop (i + 1) ≠ [] := fun e => by
                have := congrArg List.length e
                rw [List.length_drop, HPL.out.1] at this
                simp at this
                omega
              rw [grpGo_more last p hdn] at h0
              refine ⟨fun hg => by rw [h0, hg]; rfl, fun g hg => ⟨fun _ => ?_, fun h => by omega⟩⟩
              rw [h0, hg]
              cases grpGo last (ps.drop (i + 1)) with
              | none => rfl
              | some t => simp
          have hcase : isQ (par 3 p) = false ∨ (isQ (par 3 p) = true ∧ last = false) ∨ (isQ (par 3 p) = true ∧ last = true ∧ ¬ (i : Int) = (k : Int) - 1) := by
            cases hq : isQ (par 3 p) with
            | false => exact .inl rfl
            | true =>
              cases hla : last with
              | false => exact .inr (.inl ⟨rfl, rfl⟩)
              | true => exact .inr (.inr ⟨rfl, rfl, fun e => h4 ⟨hq, hla, by omega⟩⟩)
          clear h4
          have HLT : Hid (∀ u, hexV p = some u → u < 65536) := fun u hu => hexV_lt hu
          rcases hcase with ho | ⟨ho, hla⟩ | ⟨ho, hla, hne⟩
          all_goals (
            rw [ho]
            clear ho
            try subst hla
            go_wp2_with fail
            refine (at_prog HP.out (HPG.out p y)).mono ?_
            rintro e y2 ⟨rfl, rfl⟩
            cases hg : hexV p with
            | none =>
              have HV := Lib.hid (And.intro (HN.out.1 hg) (HW.out.2.trans HY2.out.2.1))
              have hneg : decI none < 0 := by decide
              clear hg
              go_wp2_with fail
              go_ret2
              exact ⟨.inr ⟨HV.out.1, rfl⟩, HV.out.2⟩
            | some g =>
              have hneg : ¬ decI (some g) < 0 := by show ¬ (g : Int) < 0; omega
              have hg6 := HLT.out g hg
              have hw16 : IntKind.u16.wrap (decI (some g)) = (g : Int) := by show IntKind.u16.wrap (g : Int) = _; simp [IntKind.wrap, IntKind.bits, IntKind.signed]; omega
              have HV := Lib.hid (HN.out.2 g hg)
              clear hg
              generalize decI (some g) = dg at hneg hw16 ⊢
              have hbk := heap_alloc_new y2 (.cells #[.int .u16 g] 93)
              have hbf := Fr.alloc No y2 (.cells #[.int .u16 g] 93)
              have HB := Lib.hid (And.intro hbk hbf)
              clear hbk hbf
              go_wp2_with (first | (at_builtin; go_loud (refine wpList_append_vals el16 rfl (.tmp 71) (.tmp 74) rfl w1.heap.size _ n _ rfl (row_frNo HY2.out.1 HB.out.2) (some ⟨y2.heap.size, 0, none⟩) 1 1 (nums .u16 [g]) rfl (nums_one _ _) rfl (At.block HB.out.1) (fun h => by cases h) (by unfold maxLen; omega) (by omega) (Nat.le_trans HY2.out.2.2 HB.out.2.size) ?_; intro a6 c6 w6 hown6 hg6' hat6; have H6 : Hid (w6.ownsRow w1.heap.size 93 1 (.slice a6 (n + 1) c6) (n + 1) (nums .u16 (gs ++ [g])) ∧ Fr No w1 w6) := ⟨(by rw [nums_append]; exact hown6), (HY2.out.2.1.trans HB.out.2).own_grown (row_frNo HY2.out.1 HB.out.2) (Nat.le_refl _) hg6'⟩; clear hown6 hg6' hat6)) | fail)
              go_roundg (k - i)
              case measure => exact hig
              case rel => exact ⟨a6, n + 1, c6, i + 1, rfl, by go_num, by omega, by omega, by omega, gs ++ [g], by rw [List.length_append, HH.out.1]; rfl, HV.out.1, HV.out.2, H6.out.1, H6.out.2⟩)
end Go.Proofs.YtmhnailcmlomiaaGreatDoor
