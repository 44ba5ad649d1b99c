/-
  CONTRACTS of the reference's Parse, over this seat's translation: what the call returns.
  Conditions: the string is shorter than 2 to the 31.
-/
import Derived.Test.YtmhnailcmlomiaaGreatDoorR7
import Derived.Test.YtmhnailcmlomiaaGreatDoorR6
import Derived.Test.YtmhnailcmlomiaaGreatDoorP7
namespace Go.Proofs.YtmhnailcmlomiaaGreatDoor
open Go.ChangeShapes Go.WideShapes Go.ChangeAt Go.RowKit
set_option linter.unusedVariables false

theorem two_pre (x : UInt8) (l : List UInt8) : [58, 58].isPrefixOf (x :: l) = true ↔ x = 58 ∧ l[0]? = some 58 := by
  cases l with
  | nil => simp [List.isPrefixOf]
  | cons y r =>
    simp [List.isPrefixOf]
    constructor
    · rintro ⟨h1, h2⟩; exact ⟨h1.symm, h2.symm⟩
    · rintro ⟨h1, h2⟩; exact ⟨h1.symm, h2.symm⟩
theorem cut2_no : ∀ {l : List UInt8}, (∀ j : Nat, l[j]? = some (58 : UInt8) → l[j + 1]? = some (58 : UInt8) → False) → cut2 l = none
  | [], _ => rfl
  | x :: l, h => by
    rw [cut2, if_neg, cut2_no (l := l) (fun j h1 h2 => h (j + 1) (by simpa using h1) (by simpa using h2))]
    · rfl
    · intro hp
      obtain ⟨rfl, h1⟩ := (two_pre x l).1 hp
      exact h 0 rfl (by simpa using h1)
theorem cut2_hit : ∀ {l : List UInt8} {i : Nat}, (∀ j : Nat, j < i → l[j]? = some (58 : UInt8) → l[j + 1]? = some (58 : UInt8) → False) → l[i]? = some 58 → l[i + 1]? = some 58 → cut2 l = some (l.take i, l.drop (i + 2))
  | [], i, _, h1, _ => by simp at h1
  | x :: l, 0, _, h1, h2 => by
    have hx : x = 58 := by simpa using h1
    rw [cut2, if_pos ((two_pre x l).2 ⟨hx, by simpa using h2⟩)]
    rfl
  | x :: l, i + 1, h, h1, h2 => by
    rw [cut2, if_neg, cut2_hit (l := l) (i := i) (fun j hj h3 h4 => h (j + 1) (by omega) (by simpa using h3) (by simpa using h4)) (by simpa using h1) (by simpa using h2)]
    · rfl
    · intro hp
      obtain ⟨rfl, h3⟩ := (two_pre x l).1 hp
      exact h 0 (by omega) rfl (by simpa using h3)

theorem no_colon {l : List UInt8} (h : l.contains 58 = false) : ∀ x ∈ l, x ≠ 58 := by
  intro x hx e
  subst e
  have : l.contains 58 = true := by simpa using hx
  rw [this] at h
  cases h
/-- Without the two colons, and no IPv4 address. -/
theorem parse_plain {l : List UInt8} (h4 : par 3 l = none) (h2 : cut2 l = none) : parseS l = (eight (grpP true l)).map fun gs => (true, pack gs) := by
  cases hc : l.contains 58 with
  | true => rw [parseS, if_pos hc, parse6, h2]
  | false =>
    rw [parseS, hc, if_neg (by decide), h4]
    have : eight (grpP true l) = none := by
      unfold grpP
      split
      · rfl
      · rw [splitc_none (no_colon hc), grpGo_one, if_pos rfl, h4]
        show eight ((hexV l).map _) = none
        cases hexV l <;> rfl
    rw [this]; rfl
theorem parse_cut {l a b : List UInt8} (h2 : cut2 l = some (a, b)) : parseS l = (fill (grpP false a) (grpP true b)).map fun gs => (true, pack gs) := by
  have hc : l.contains 58 = true := by
    have : ∀ {l a b : List UInt8}, cut2 l = some (a, b) → (58 : UInt8) ∈ l := by
      intro l
      induction l with
      | nil => intro a b h; cases h
      | cons x l ih =>
        intro a b h
        rw [cut2] at h
        split at h
        · rename_i hp
          rw [((two_pre x l).1 hp).1]; simp
        · obtain ⟨p, hp, _⟩ := Option.map_eq_some_iff.1 h
          exact List.mem_cons_of_mem _ (ih (a := p.1) (b := p.2) hp)
    simpa using this h2
  rw [parseS, if_pos hc, parse6, h2]

theorem own_other {o o6 : Option Nat} {ws wr w4 b : Nat} (h : o6 = o ∨ o6 = some ws) (ho : o ≠ some b) (hb : b < w4) (hs : ws = wr + 1) (hw : w4 ≤ wr) : o6 ≠ some b := by
  rcases h with h | h
  · rw [h]; exact ho
  · rw [h]; intro e; have := Option.some.inj e; omega
theorem grpGo_length (last : Bool) : ∀ (ps : List (List UInt8)) (gs : List Nat), grpGo last ps = some gs → gs.length ≤ ps.length + 1
  | [], gs, h => by rw [grpGo] at h; cases h; simp
  | [p], gs, h => by
    rw [grpGo_one] at h
    split at h
    · rename_i xs hx
      cases h
      have := two_length xs
      simp; omega
    · obtain ⟨x, hx, rfl⟩ := Option.map_eq_some_iff.1 h
      simp
  | p :: q :: r, gs, h => by
    rw [grpGo_more last p (by simp)] at h
    split at h
    · rename_i hr
      cases h
      have := grpGo_length last (q :: r) _ hr
      simp at this ⊢
      omega
    · cases h
theorem grpP_length {last : Bool} {l : List UInt8} {gs : List Nat} (h : grpP last l = some gs) : gs.length ≤ l.length + 2 := by
  unfold grpP at h
  split at h
  · cases h; simp
  · have := grpGo_length last _ _ h
    have := splitc_len 58 l
    omega
theorem fill_eight {l : List UInt8} {gs : List Nat} {n : Nat} (h : parseS l = (eight (grpP true l)).map fun gs => (true, pack gs)) (hg : grpP true l = some gs) (hn : gs.length = n) : adr (decide (n = 8)) (v6Of gs) = adr (resB (parseS l)) (resX (parseS l)) ∧ decide (n = 8) = (parseS l).isSome := by
  rw [h, hg]
  subst hn
  by_cases h8 : gs.length = 8
  · simp [eight, h8, v6Of, resB, resX]
  · simp [eight, h8, v6Of, resB, resX]

set_option maxHeartbeats 8000000 in
set_option maxRecDepth 100000 in
theorem parse_ref (l : List UInt8) (hl : l.length < 2147483648) (w : World) :
    Calls Tryz.prog 69 #[.string (bs l)] w fun e w' => e = .returned (.tuple #[.agg (adr (resB (parseS l)) (resX (parseS l))).toArray, .bool (parseS l).isSome]) ∧ Fr No w w' := by
  have v24 := zero30
  obtain ⟨Z, hZ⟩ : ∃ Z : Array Value, (adr false zeros).toArray = Z := ⟨_, rfl⟩
  rw [hZ] at v24
  have hz1 : Z.size = 17 ∧ ∀ u ∈ Z.toList, u.oneCell' = true := ⟨by rw [← hZ]; rfl, by rw [← hZ]; exact adr_one _ _⟩
  have hb0 := heap_alloc_new w (.cells Z 30)
  have hF0 := Fr.alloc No w (.cells Z 30)
  generalize hw0 : w.alloc (.cells Z 30) = w0 at hb0 hF0
  obtain ⟨n, hn⟩ : ∃ n, w.heap.size = n := ⟨_, rfl⟩
  rw [hn] at hb0
  have HN := Lib.hid (And.intro hn (And.intro hF0 hb0))
  have HP4 := Lib.hid (fun w => pipv4_ref l hl w)
  have HPG : Hid (∀ (p : List UInt8) (last : Bool) (w : World), p.length ≤ l.length → Calls Tryz.prog 95 #[.string (bs p), .bool last] w fun e w' => GrpQ w w' (grpP last p) e ∧ Fr No w w') := fun p last w h => pgrps_ref p last (by omega) w
  have HPS := Lib.hid (HPG.out l true · (Nat.le_refl _))
  have HEX : Hid (∀ a b : Nat, (bs l).extract a b = bs ((l.drop a).take (b - a))) := fun a b => bs_extract l a b
  have HIX : Hid (∀ (i : Nat) (x : UInt8) (w : World), l[i]? = some x → Sem.run PD (Instr.index 9 (.string (bs l)) (.int .i64 i)) w = .ok (.int .u8 (x.toNat : Int)) w) := fun i x w h => bs_index h w
  have HZ := Lib.hid (And.intro hZ hz1)
  have hsz : (bs l).size = l.length := rfl
  generalize hs : bs l = s at HP4 HPS HEX HIX hsz ⊢
  have HS := Lib.hid hs
  have hl31 := hl
  generalize hln : l.length = ln at hsz hl31
  have HLN := Lib.hid hln
  clear hb0 hF0 hZ hs hln hl
  go_enter Tryz.func69, Tryz.ntmps69
  have t3 := Tryz.underlying3
  have u3 := Tryz.runUnderlying3
  have g3 := Tryz.isAgg3
  have z3 := Tryz.sizeOf3
  have t4 := Tryz.underlying4
  have u4 := Tryz.runUnderlying4
  have g4 := Tryz.isAgg4
  have z4 := Tryz.sizeOf4
  have t5 := Tryz.underlying5
  have u5 := Tryz.runUnderlying5
  have g5 := Tryz.isAgg5
  have z5 := Tryz.sizeOf5
  have t9 := Tryz.underlying9
  have u9 := Tryz.runUnderlying9
  have g9 := Tryz.isAgg9
  have z9 := Tryz.sizeOf9
  have t28 := Tryz.underlying28
  have u28 := Tryz.runUnderlying28
  have g28 := Tryz.isAgg28
  have z28 := Tryz.sizeOf28
  have t30 := Tryz.underlying30
  have u30 := Tryz.runUnderlying30
  have g30 := Tryz.isAgg30
  have z30 := Tryz.sizeOf30
  have t89 := Tryz.underlying89
  have u89 := Tryz.runUnderlying89
  have g89 := Tryz.isAgg89
  have z89 := Tryz.sizeOf89
  have t93 := Tryz.underlying93
  have u93 := Tryz.runUnderlying93
  have g93 := Tryz.isAgg93
  have z93 := Tryz.sizeOf93
  have c76 := Tryz.call76
  have c95 := Tryz.call95
  have c96 := Tryz.call96
  have v93 := zero93
  have mixed : Tryz.prog.follows .mixedOrders = true := by kernel_rfl
  obtain ⟨k24, hk24⟩ : ∃ k, k = 17 := ⟨_, rfl⟩
  rw [← hk24] at z30
  have nk24 : ¬ k24 = 0 := by omega
  have HK30 := Lib.hid hk24
  have hP : Tryz.prog = PD := rfl
  rw [hP] at t3 u3 g3 z3 t4 u4 g4 z4 t5 u5 g5 z5 t9 u9 g9 z9 t28 u28 g28 z28 t30 u30 g30 z30 t89 u89 g89 z89 t93 u93 g93 z93 c76 c95 c96 v93 mixed v24 ⊢
  have HP := Lib.hid hP.symm
  clear hP hk24
  have hzk : Z.size = k24 := by rw [HK30.out]; exact hz1.1
  clear hz1
  go_wp2_with fail
  clear hw0 hn
  refine (at_prog HP.out (HP4.out w0)).mono ?_
  rintro e w1 ⟨rfl, hf⟩
  have HQB : Hid (Bytes (quad (par 3 l))) := by
    cases hq : par 3 l with
    | none => exact zeros_bytes
    | some xs =>
      obtain ⟨a, b, c, d, rfl, ha, hb, hc, hd⟩ := two_quad (par_length 3 l xs hq) (par_lt 3 l xs hq)
      exact v4_bytes ha hb hc hd
  have hA17 : (adr false (quad (par 3 l))).toArray.size = 17 := by rw [List.size_toArray, adr_length, HQB.out.1]
  have HA17 := Lib.hid hA17
  obtain ⟨y, hst, hyb, hyf⟩ := store_all (P := PD) (adr false (quad (par 3 l))).toArray.toList (heap_alloc_new w1 (.cells Z 30)) (by rw [Array.length_toList, hA17, HZ.out.2.1]) (adr_one _ _)
  have hsk : (adr false (quad (par 3 l))).toArray.size = k24 := by rw [HK30.out]; exact hA17
  have HY : Hid (Fr No w y ∧ y.heap[n]? = some (.cells Z 30 (0, 0)) ∧ y.heap[w1.heap.size]? = some (.cells (adr false (quad (par 3 l))).toArray 30 (0, 0))) := by
    have h1 := hf.keep HN.out.2.2
    have hlt := (Array.getElem?_eq_some_iff.1 h1).1
    have h2 := (hf.trans (Fr.alloc No w1 (.cells Z 30))).keep HN.out.2.2
    refine ⟨((HN.out.2.1.trans hf).trans (Fr.alloc No w1 (.cells Z 30))).ofNew hyf fun k hk => .inr ?_, ?_, by simpa using hyb⟩
    · rw [hk]; exact Nat.le_trans HN.out.2.1.size hf.size
    · exact (hyf.block _ (Array.getElem?_eq_some_iff.1 h2).1 (by omega)).trans h2
  have HSTO : Hid (∀ (V : List Value) (w3 : World), V.length = 17 → (∀ u ∈ V, u.oneCell' = true) → Fr No y w3 → ∃ y', Sem.run PD (storeCells ⟨n, 0, none⟩ V 0) w3 = .ok () y' ∧ y'.heap[n]? = some (.cells V.toArray 30 (0, 0)) ∧ Fr No w y') := fun V w3 hv h1 hf => by
    obtain ⟨y', h2, h3, h4⟩ := store_all (P := PD) V (hf.keep HY.out.2.1) (by rw [hv, HZ.out.2.1]) h1
    exact ⟨y', h2, h3, (HY.out.1.trans hf).ofNew h4 fun k hk => .inr (by rw [hk, HN.out.1]; exact Nat.le_refl _)⟩
  have FAIL : Hid (parseS l = none → ∀ w3, Fr No y w3 → ∃ y', Sem.run PD (storeCells ⟨n, 0, none⟩ Z.toList 0) w3 = .ok () y' ∧ y'.heap[n]? = some (.cells (adr (resB (parseS l)) (resX (parseS l))).toArray 30 (0, 0)) ∧ Fr No w y' ∧ (parseS l).isSome = false) := fun hp w3 hf => by
    obtain ⟨y', h1, h2, h3⟩ := HSTO.out Z.toList w3 (by rw [Array.length_toList]; exact HZ.out.2.1) HZ.out.2.2 hf
    refine ⟨y', h1, ?_, h3, by rw [hp]; rfl⟩
    rw [h2, hp, show (adr (resB none) (resX none)).toArray = Z from HZ.out.1]
  have HRL : Hid ((adr (resB (parseS l)) (resX (parseS l))).length = 17) := by show _ = _; rw [adr_length, (resX_bytes l).1]
  clear hf hyb hyf hA17
  generalize hAA : (adr false (quad (par 3 l))).toArray = A at hst hsk HY ⊢
  have HAA := Lib.hid hAA
  clear hAA
  cases h4 : par 3 l with
  | some xs =>
    have HR : Hid (parseS l = some (false, quad (some xs))) := by
      show _ = _
      obtain ⟨a, b, c, d, rfl, -⟩ := two_quad (par_length 3 l xs h4) (par_lt 3 l xs h4)
      rw [parseS, par_colon h4, if_neg (by decide), h4]; rfl
    have hAe : A = (adr false (quad (some xs))).toArray := by rw [← HAA.out, h4]
    obtain ⟨y', hs2, hb2, hf2⟩ := HSTO.out A.toList y (by rw [Array.length_toList, ← HAA.out]; exact HA17.out) (by rw [← HAA.out]; exact adr_one _ _) (Fr.refl _ _)
    have hl2 : Sem.run PD (loadCellsFrom ⟨w1.heap.size, 0, none⟩ 0 k24 #[]) y = .ok A y := by rw [HK30.out]; exact load_block HY.out.2.2 (by rw [← HAA.out]; exact HA17.out) (fun j v hv => by simpa using hv)
    have HB2 : Hid (y'.heap[n]? = some (.cells (adr (resB (parseS l)) (resX (parseS l))).toArray 30 (0, 0)) ∧ Fr No w y' ∧ (parseS l).isSome = true) := by
      refine ⟨?_, hf2, by rw [HR.out]; rfl⟩
      rw [hb2, HR.out]
      show some (Obj.cells A.toList.toArray 30 (0, 0)) = some (Obj.cells (adr false (quad (some xs))).toArray 30 (0, 0))
      rw [← hAe]
    clear hb2 hf2 h4 hAe
    simp only [isQ]
    go_wp2_with fail
    refine bodyPost_ret_by (results_agg_tmp rfl _ (b := n) (k := 17) (cs := (adr (resB (parseS l)) (resX (parseS l))).toArray) (Tryz.isAgg30 _) (Tryz.sizeOf30 _) rfl (load_all HB2.out.1 HRL.out)) rfl ?_
    exact ⟨by rw [HB2.out.2.2]; rfl, HB2.out.2.1⟩
  | none =>
    simp only [isQ]
    have HH4 := Lib.hid h4
    clear h4
    go_wp2_with fail
    clear hst
    go_loopg [6, 7] (ln + 1) (fun g s6 s7 wr => ∃ i : Nat, s6 = .int .i64 (-1) ∧ s7 = .int .i64 i ∧ i ≤ ln ∧ ln - i < g ∧ Hid (wr = y ∧ ∀ j : Nat, j < i → l[j]? = some 58 → l[j + 1]? = some 58 → False))
    case atStart => exact ⟨0, rfl, by go_num, by omega, by omega, rfl, fun j hj => by omega⟩
    case round =>
      obtain ⟨i, rfl, rfl, hil, hig, HR⟩ := hrel
      obtain ⟨hw, hno⟩ := HR.out
      have hw' := hw.symm
      subst hw'
      clear hw HR
      have q1 : (0 : Int) ≤ (i : Int) := by omega
      by_cases hi : i + 1 < ln
      · obtain ⟨c, hc⟩ : ∃ c, l[i]? = some c := ⟨_, List.getElem?_eq_getElem (by rw [HLN.out]; omega)⟩
        obtain ⟨d, hd⟩ : ∃ d, l[i + 1]? = some d := ⟨_, List.getElem?_eq_getElem (by rw [HLN.out]; omega)⟩
        have hix := HIX.out i c y hc
        have hix1 := HIX.out (i + 1) d y hd
        have hcast : ((i + 1 : Nat) : Int) = (i : Int) + 1 := by omega
        rw [hcast] at hix1
        have q2 : (i : Int) + 1 < (ln : Int) := by omega
        by_cases hcd : c = 58 ∧ d = 58
        · obtain ⟨rfl, rfl⟩ := hcd
          have hc2 := cut2_hit hno hc hd
          have HR : Hid (parseS l = (fill (grpP false (l.take i)) (grpP true (l.drop (i + 2)))).map fun gs => (true, pack gs)) := parse_cut hc2
          have HPA : Hid (∀ w, Calls Tryz.prog 95 #[.string (s.extract 0 i), .bool false] w fun e w' => GrpQ w w' (grpP false (l.take i)) e ∧ Fr No w w') := fun w => by
            rw [HEX.out 0 i, List.drop_zero, Nat.sub_zero]
            exact HPG.out (l.take i) false w (by rw [List.length_take]; omega)
          have HPB : Hid (∀ w, Calls Tryz.prog 95 #[.string (s.extract (i + 2) ln), .bool true] w fun e w' => GrpQ w w' (grpP true (l.drop (i + 2))) e ∧ Fr No w w') := fun w => by
            rw [HEX.out (i + 2) ln, List.take_of_length_le (by rw [List.length_drop, HLN.out]; exact Nat.le_refl _)]
            exact HPG.out (l.drop (i + 2)) true w (by rw [List.length_drop]; omega)
          have q3 : (0 : Int) ≤ (i : Int) + 2 := by omega
          have q4 : (i : Int) + 2 ≤ (ln : Int) := by omega
          have q5 : (i : Int) ≤ (ln : Int) := by omega
          have q6 : ¬ (i : Int) < 0 := by omega
          clear hc hd hno hc2
          go_wp2_with fail
          refine (at_prog HP.out (HPA.out y)).mono ?_
          rintro e w3 ⟨hg3, hf3⟩
          have H3 := Lib.hid (And.intro hg3 hf3)
          rcases hg3 with ⟨gs1, a1, n1, c1, hgs1, hgl1, rfl, hown1⟩ | ⟨hgs1, rfl⟩
          · clear H3
            have H3 := Lib.hid (And.intro hgs1 (And.intro hgl1 (And.intro hown1 hf3)))
            clear hgs1 hgl1 hown1 hf3
            go_wp2_with fail
            refine (at_prog HP.out (HPB.out w3)).mono ?_
            rintro e w4 ⟨⟨gs2, a2, n2, c2, hgs2, hgl2, rfl, hown2⟩ | ⟨hgs2, rfl⟩, hf4⟩
            · have HFILL : Hid (parseS l = if n1 + n2 ≤ 7 then some (true, pack (gs1 ++ (List.replicate (8 - n1 - n2) 0 ++ gs2))) else none) := by
                show _ = _
                rw [HR.out, H3.out.1, hgs2]
                show ((if gs1.length + gs2.length ≤ 7 then some (gs1 ++ (List.replicate (8 - gs1.length - gs2.length) 0 ++ gs2)) else none) : Option (List Nat)).map _ = _
                rw [H3.out.2.1, hgl2]
                split <;> rfl
              have b1 : n1 ≤ 2147483700 := by
                have h1 := grpP_length H3.out.1
                rw [H3.out.2.1, List.length_take] at h1
                have := Nat.min_le_left i l.length
                omega
              have b2 : n2 ≤ 2147483700 := by
                have h1 := grpP_length hgs2
                rw [hgl2, List.length_drop, HLN.out] at h1
                omega
              by_cases h7 : n1 + n2 ≤ 7
              · have p7 : ¬ (7 : Int) < (n1 : Int) + (n2 : Int) := by omega
                have H4 := Lib.hid (And.intro (row_At hown2) (And.intro hgl2 (And.intro (grpP_lt hgs2) (And.intro (H3.out.2.2.2.trans hf4) (And.intro (row_frNo H3.out.2.2.1 hf4) (And.intro (fun k hk => (H3.out.2.2.1.lt k hk).2) (fun ad (had : a2 = some ad) => by
                  obtain ⟨a', c', he, -, -, hb⟩ := row_any hown2
                  cases he
                  have hl0 : ad.block < w4.heap.size := by
                    rcases hown2.2 with ⟨hv, -⟩ | ⟨g, cap, cur, hv, -, hg, -⟩
                    · cases hv; cases had
                    · cases hv; cases had; exact (Array.getElem?_eq_some_iff.1 hg).1
                  exact And.intro (hb ad had) hl0)))))))
                clear hgs2 hgl2 hown2 hf4
                go_wp2_with fail
                go_loopg [10] 9 (fun g s10 wr => ∃ (a : Option Addr) (c j : Nat), s10 = .slice a (n1 + j) c ∧ n1 + j + n2 ≤ 8 ∧ 8 - (n1 + j + n2) < g ∧ Hid (wr.ownsRow y.heap.size 93 1 (.slice a (n1 + j) c) (n1 + j) (nums .u16 (gs1 ++ List.replicate j 0)) ∧ Fr No y wr ∧ At wr a2 (nums .u16 gs2) ∧ w4.heap.size ≤ wr.heap.size ∧ ∀ ad, a2 = some ad → (Value.slice a (n1 + j) c).ownBlock ≠ some ad.block))
                case atStart =>
                  refine ⟨a1, c1, 0, rfl, by omega, by omega, ?_, H4.out.2.2.2.1, H4.out.1.1, Nat.le_refl _, fun ad had hk => ?_⟩
                  · rw [List.replicate_zero, List.append_nil]; exact H4.out.2.2.2.2.1
                  · have h1 := H4.out.2.2.2.2.2.1 _ hk
                    have h2 := (H4.out.2.2.2.2.2.2 ad had).1
                    omega
                case round =>
                  obtain ⟨a, c, j, rfl, hj8, hjg, HJ⟩ := hrel
                  have hwj : ((n1 + j : Nat) : Int) = (n1 : Int) + (j : Int) := by omega
                  by_cases hj : n1 + j + n2 = 8
                  · have hP : parseS l = some (true, pack (gs1 ++ List.replicate j 0 ++ gs2)) := by
                      rw [HFILL.out, if_pos h7, show 8 - n1 - n2 = j by omega, List.append_assoc]
                    have hLEN : (gs1 ++ List.replicate j 0 ++ gs2).length = 8 := by
                      rw [List.length_append, List.length_append, List.length_replicate, H3.out.2.1, H4.out.2.1]; exact hj
                    have hLT : ∀ g ∈ gs1 ++ List.replicate j 0 ++ gs2, g < 65536 := by
                      intro g hg
                      rcases List.mem_append.1 hg with hg | hg
                      · rcases List.mem_append.1 hg with hg | hg
                        · exact grpP_lt H3.out.1 g hg
                        · have := List.eq_of_mem_replicate hg; omega
                      · exact H4.out.2.2.1 g hg
                    have HPP := Lib.hid (And.intro hP (And.intro hLEN hLT))
                    have q7 : ¬ ((n1 + j : Nat) : Int) + (n2 : Int) < 8 := by omega
                    clear hP hLEN hLT
                    generalize hnj : n1 + j = nj at HJ q7 hj hwj
                    clear hwj
                    have hnj8 : nj ≤ 8 := by omega
                    clear hnj
                    go_wp2_with (first | (at_builtin; go_loud (refine wpList_append_vals el16 rfl (.tmp 93) (.tmp 94) rfl y.heap.size _ nj _ rfl HJ.out.1 a2 n2 c2 (nums .u16 gs2) rfl (nums_one _ _) (by rw [nums_length]; exact H4.out.2.1) HJ.out.2.2.1 H4.out.1.2 (by unfold maxLen; omega) (by omega) HJ.out.2.1.size ?_; intro a6 c6 w6 hown6 hg6' hat6; rw [← nums_append] at hown6; have H6 : Hid (At w6 a6 (nums .u16 (gs1 ++ List.replicate j 0 ++ gs2)) ∧ Fr No y w6) := ⟨At.own hown6, HJ.out.2.1.own_grown HJ.out.1 (Nat.le_refl _) hg6'⟩; clear hown6 hg6' hat6)) | fail)
                    refine (at_prog HP.out (v6_ref a6 8 c6 (gs1 ++ List.replicate j 0 ++ gs2) w6 H6.out.1 HPP.out.2.1 HPP.out.2.2)).mono ?_
                    rintro e w7 ⟨rfl, hf7⟩
                    have HE : Hid (adr (decide (8 = 8)) (v6Of (gs1 ++ List.replicate j 0 ++ gs2)) = adr (resB (parseS l)) (resX (parseS l)) ∧ decide (8 = 8) = (parseS l).isSome) := by
                      rw [HPP.out.1, v6Of, if_pos HPP.out.2.1]
                      exact ⟨rfl, rfl⟩
                    rw [HE.out.1]
                    have hV : (adr (resB (parseS l)) (resX (parseS l))).length = k24 := by rw [HK30.out]; exact HRL.out
                    obtain ⟨y', hs2, hb2, hf2⟩ := HSTO.out (adr (resB (parseS l)) (resX (parseS l))) w7 HRL.out (adr_one _ _) (H6.out.2.trans hf7)
                    have H2 := Lib.hid (And.intro hb2 hf2)
                    clear hb2 hf2 hf7
                    generalize hVV : adr (resB (parseS l)) (resX (parseS l)) = V at hs2 hV H2 HRL ⊢
                    have hs3 : Sem.run Tryz.prog (storeCells ⟨n, 0, none⟩ V 0) w7 = .ok () y' := hs2
                    have hV2 : V.length = 17 := HRL.out
                    clear hs2 hV
                    have HVV := Lib.hid hVV
                    clear hVV
                    go_wp2_with fail
                    refine bodyPost_ret_by (results_agg_tmp rfl _ (b := n) (k := 17) (cs := V.toArray) (Tryz.isAgg30 _) (Tryz.sizeOf30 _) rfl (load_all H2.out.1 HRL.out)) rfl ?_
                    exact ⟨by rw [← HE.out.2, HVV.out]; rfl, H2.out.2⟩
                  · have q7 : ((n1 + j : Nat) : Int) + (n2 : Int) < 8 := by omega
                    have hbk := heap_alloc_new wr (.cells #[.int .u16 0] 93)
                    have hbf := Fr.alloc No wr (.cells #[.int .u16 0] 93)
                    have hbs : (wr.alloc (.cells #[.int .u16 0] 93)).heap.size = wr.heap.size + 1 := by simp
                    have HB := Lib.hid (And.intro hbk (And.intro hbf hbs))
                    clear hbk hbf hbs
                    generalize hnj : n1 + j = nj at HJ q7 hj hwj
                    clear hwj
                    have HNJ := Lib.hid hnj
                    have hnj8 : nj + n2 < 8 := by omega
                    clear hnj
                    go_wp2_with (first | (at_builtin; go_loud (refine wpList_append_vals el16 rfl (.tmp 90) (.tmp 91) rfl y.heap.size _ nj _ rfl (row_frNo HJ.out.1 HB.out.2.1) (some ⟨wr.heap.size, 0, none⟩) 1 1 (nums .u16 [0]) rfl (nums_one _ _) rfl (At.block HB.out.1) (fun h => by cases h) (by unfold maxLen; omega) (by omega) (Nat.le_trans HJ.out.2.1.size HB.out.2.1.size) ?_; intro a6 c6 w6 hown6 hg6' hat6; have H6 : Hid (w6.ownsRow y.heap.size 93 1 (.slice a6 (nj + 1) c6) (nj + 1) (nums .u16 (gs1 ++ List.replicate (j + 1) 0)) ∧ Fr No y w6 ∧ At w6 a2 (nums .u16 gs2) ∧ w4.heap.size ≤ w6.heap.size ∧ ∀ ad, a2 = some ad → (Value.slice a6 (nj + 1) c6).ownBlock ≠ some ad.block) := ⟨(by rw [List.replicate_succ', ← List.append_assoc, nums_append]; exact hown6), (HJ.out.2.1.trans HB.out.2.1).own_grown (row_frNo HJ.out.1 HB.out.2.1) (Nat.le_refl _) hg6', (HJ.out.2.2.1.frNo HB.out.2.1).fr (Fr.grown (S := fun k => (Value.slice a nj c).ownBlock = some k) hg6' (fun k hk => hk)) (fun ad had hk => HJ.out.2.2.2.2 ad had hk), Nat.le_trans HJ.out.2.2.2.1 (Nat.le_trans HB.out.2.1.size hg6'.size), (fun ad had => own_other hat6 (HJ.out.2.2.2.2 ad had) (H4.out.2.2.2.2.2.2 ad had).2 HB.out.2.2 HJ.out.2.2.2.1)⟩; clear hown6 hg6' hat6)) | fail)
                    go_roundg (8 - (nj + n2))
                    case measure => have := HNJ.out; omega
                    case rel => exact ⟨a6, c6, j + 1, by rw [← Nat.add_assoc, HNJ.out], by have := HNJ.out; omega, by have := HNJ.out; omega, by rw [← Nat.add_assoc, HNJ.out]; exact H6.out⟩
              · have p7 : (7 : Int) < (n1 : Int) + (n2 : Int) := by omega
                have HPN : Hid (parseS l = none) := by show _ = _; rw [HFILL.out, if_neg h7]
                obtain ⟨y', hs2, hb2, hf2, hso⟩ := FAIL.out HPN.out w4 (H3.out.2.2.2.trans hf4)
                have H2 := Lib.hid (And.intro hb2 (And.intro hf2 hso))
                clear hb2 hf2 hso hgs2 hf4 hgl2 hown2 h7
                go_wp2_with fail
                refine bodyPost_ret_by (results_agg_tmp rfl _ (b := n) (k := 17) (cs := (adr (resB (parseS l)) (resX (parseS l))).toArray) (Tryz.isAgg30 _) (Tryz.sizeOf30 _) rfl (load_all H2.out.1 HRL.out)) rfl ?_
                exact ⟨by rw [H2.out.2.2]; rfl, H2.out.2.1⟩
            · have HPN : Hid (parseS l = none) := by show _ = _; rw [HR.out, hgs2, H3.out.1]; rfl
              obtain ⟨y', hs2, hb2, hf2, hso⟩ := FAIL.out HPN.out w4 (H3.out.2.2.2.trans hf4)
              have H2 := Lib.hid (And.intro hb2 (And.intro hf2 hso))
              clear hb2 hf2 hso hgs2 hf4
              go_wp2_with fail
              refine bodyPost_ret_by (results_agg_tmp rfl _ (b := n) (k := 17) (cs := (adr (resB (parseS l)) (resX (parseS l))).toArray) (Tryz.isAgg30 _) (Tryz.sizeOf30 _) rfl (load_all H2.out.1 HRL.out)) rfl ?_
              exact ⟨by rw [H2.out.2.2]; rfl, H2.out.2.1⟩
          · have HPN : Hid (parseS l = none) := by show _ = _; rw [HR.out, hgs1]; rfl
            clear H3
            have H3 := Lib.hid hf3
            clear hgs1 hf3
            go_wp2_with fail
            refine (at_prog HP.out (HPB.out w3)).mono ?_
            rintro e w4 ⟨⟨gs2, a2, n2, c2, hgs2, hgl2, rfl, hown2⟩ | ⟨hgs2, rfl⟩, hf4⟩
            all_goals (
              obtain ⟨y', hs2, hb2, hf2, hso⟩ := FAIL.out HPN.out w4 (H3.out.trans hf4)
              have H2 := Lib.hid (And.intro hb2 (And.intro hf2 hso))
              try clear hgl2 hown2
              clear hb2 hf2 hso hgs2 hf4
              go_wp2_with fail
              refine bodyPost_ret_by (results_agg_tmp rfl _ (b := n) (k := 17) (cs := (adr (resB (parseS l)) (resX (parseS l))).toArray) (Tryz.isAgg30 _) (Tryz.sizeOf30 _) rfl (load_all H2.out.1 HRL.out)) rfl ?_
              exact ⟨by rw [H2.out.2.2]; rfl, H2.out.2.1⟩)
        · have HNO : Hid (∀ j : Nat, j < i + 1 → l[j]? = some 58 → l[j + 1]? = some 58 → False) := fun j hj h1 h2 => by
            by_cases hji : j = i
            · subst hji
              exact hcd ⟨Option.some.inj (hc.symm.trans h1), Option.some.inj (hd.symm.trans h2)⟩
            · exact hno j (by omega) h1 h2
          have hcase : ¬ (c.toNat : Int) = 58 ∨ ((c.toNat : Int) = 58 ∧ ¬ (d.toNat : Int) = 58) := by
            by_cases h1 : c = 58
            · exact .inr ⟨by rw [h1]; rfl, fun e => hcd ⟨h1, UInt8.toNat_inj.1 (by show d.toNat = 58; omega)⟩⟩
            · exact .inl fun e => h1 (UInt8.toNat_inj.1 (by show c.toNat = 58; omega))
          clear hcd hno hc hd
          rcases hcase with h1 | ⟨h1, h2⟩
          all_goals (
            go_wp2_with fail
            go_roundg (ln - i)
            case measure => exact hig
            case rel => exact ⟨i + 1, rfl, by go_num, by omega, by omega, rfl, HNO.out⟩)
      · have q2 : ¬ (i : Int) + 1 < (ln : Int) := by omega
        have HR : Hid (parseS l = (eight (grpP true l)).map fun gs => (true, pack gs)) := by
          refine parse_plain HH4.out (cut2_no fun j h1 h2 => ?_)
          have h3 := (List.getElem?_eq_some_iff.1 h2).1
          rw [HLN.out] at h3
          exact hno j (by omega) h1 h2
        clear hno hi
        go_wp2_with fail
        refine (at_prog HP.out (HPS.out y)).mono ?_
        rintro e w3 ⟨⟨gs, a3, n3, c3, hgs, hgl, rfl, hown⟩ | ⟨hgs, rfl⟩, hf3⟩
        · have hlt := grpP_lt hgs
          have HV := Lib.hid (And.intro (row_At hown) (And.intro hgl (And.intro hlt hf3)))
          have HE := fill_eight HR.out hgs hgl
          have HE := Lib.hid HE
          clear hgs hgl hown hf3 hlt
          go_wp2_with fail
          refine (at_prog HP.out (v6_ref a3 n3 c3 gs w3 HV.out.1.1 HV.out.2.1 HV.out.2.2.1)).mono ?_
          rintro e w4 ⟨rfl, hf4⟩
          rw [HE.out.1]
          have hV : (adr (resB (parseS l)) (resX (parseS l))).length = k24 := by rw [HK30.out]; exact HRL.out
          obtain ⟨y', hs2, hb2, hf2⟩ := HSTO.out (adr (resB (parseS l)) (resX (parseS l))) w4 HRL.out (adr_one _ _) (HV.out.2.2.2.trans hf4)
          have H2 := Lib.hid (And.intro hb2 hf2)
          clear hb2 hf2 hf4
          generalize hVV : adr (resB (parseS l)) (resX (parseS l)) = V at hs2 hV H2 HRL ⊢
          have hs3 : Sem.run PD (storeCells ⟨n, 0, none⟩ V.toArray.toList 0) w4 = .ok () y' := hs2
          have hV2 : V.toArray.size = k24 := by rw [List.size_toArray]; exact hV
          have HVV := Lib.hid hVV
          clear hVV
          go_wp2_with fail
          refine bodyPost_ret_by (results_agg_tmp rfl _ (b := n) (k := 17) (cs := V.toArray) (Tryz.isAgg30 _) (Tryz.sizeOf30 _) rfl (load_all H2.out.1 HRL.out)) rfl ?_
          exact ⟨by rw [← HE.out.2, HVV.out]; rfl, H2.out.2⟩
        · have HPN : Hid (parseS l = none) := by show _ = _; rw [HR.out, hgs]; rfl
          obtain ⟨y', hs2, hb2, hf2, hso⟩ := FAIL.out HPN.out w3 hf3
          have H2 := Lib.hid (And.intro hb2 (And.intro hf2 hso))
          clear hb2 hf2 hso hgs hf3
          go_wp2_with fail
          refine bodyPost_ret_by (results_agg_tmp rfl _ (b := n) (k := 17) (cs := (adr (resB (parseS l)) (resX (parseS l))).toArray) (Tryz.isAgg30 _) (Tryz.sizeOf30 _) rfl (load_all H2.out.1 HRL.out)) rfl ?_
          exact ⟨by rw [H2.out.2.2]; rfl, H2.out.2.1⟩
end Go.Proofs.YtmhnailcmlomiaaGreatDoor
