/-
  CONTRACTS of parseV6 and Parse, over this seat's translation: what each call returns.
  Conditions: the string is shorter than 2 to the 31; the package variables are as Glob says.
  CONTRACTS of Parse, over this seat's translation: what the call returns; and what the pure functions give at the texts of the fixed example.
  Conditions: the string is shorter than 2 to the 31; the package variables are as Glob says.
-/
import Derived.Test.YtmhnailcmlomiaaGreatDoorP5
import Derived.Test.YtmhnailcmlomiaaGreatDoorAp
import Derived.Test.YtmhnailcmlomiaaGreatDoorU
import Derived.Test.YtmhnailcmlomiaaGreatDoorC
namespace Go.Proofs.YtmhnailcmlomiaaGreatDoor
open Go.ChangeShapes Go.WideShapes Go.ChangeAt Go.RowKit
set_option linter.unusedVariables false

/-- What parseV6 gives. -/
def oct : Option (List Nat) → List Nat
  | some gs => pack gs
  | none => zeros

theorem row_At {w0 w : World} {gs : List Nat} {a : Option Addr} {n cap : Nat} (h : w.ownsRow w0.heap.size 93 1 (.slice a n cap) n (nums .u16 gs)) : At w a (nums .u16 gs) ∧ (a = none → cap = 0) := by
  obtain ⟨a', c', he, hc, hn, _⟩ := row_any h
  cases he
  exact ⟨At.own h, hn⟩

theorem eight_any {o : Option (List Nat)} {gs : List Nat} (h : o = some gs) : isQ (eight o) = decide (gs.length = 8) ∧ oct (eight o) = v6Of gs := by
  subst h
  have e : eight (some gs) = if gs.length = 8 then some gs else none := rfl
  unfold v6Of
  by_cases h8 : gs.length = 8
  · rw [e, if_pos h8, if_pos h8]; exact ⟨by rw [decide_eq_true h8]; rfl, rfl⟩
  · rw [e, if_neg h8, if_neg h8]; exact ⟨by rw [decide_eq_false h8]; rfl, rfl⟩
theorem eight_none {o : Option (List Nat)} (h : ∀ gs, o = some gs → 8 < gs.length) : eight o = none := by
  cases o with
  | none => rfl
  | some gs => have := h gs rfl; rw [eight, if_neg (by omega)]
theorem fill_none1 {o p : Option (List Nat)} (h : ∀ gs, o = some gs → 8 < gs.length) : fill o p = none := by
  cases o with
  | none => rfl
  | some gs =>
    cases p with
    | none => rfl
    | some hs => have := h gs rfl; rw [fill, if_neg (by omega)]
theorem fill_none2 {o p : Option (List Nat)} (h : ∀ gs, p = some gs → 8 < gs.length) : fill o p = none := by
  cases o with
  | none => rfl
  | some gs =>
    cases p with
    | none => rfl
    | some hs => have := h hs rfl; rw [fill, if_neg (by omega)]

theorem make16 (z : Nat) (w : World) (hz : z ≤ 8) : ∃ w', Sem.run PD (Instr.makeSlice 89 (.int .i64 z) (.int .i64 z)) w = .ok (.slice (some ⟨w.heap.size, 0, none⟩) z z) w' ∧ w'.ownsRow w.heap.size 93 1 (.slice (some ⟨w.heap.size, 0, none⟩) z z) z (nums .u16 (List.replicate z 0)) ∧ Fr No w w' := by
  have hinfo : (Tryz.prog.info? 93).map (fun i => (i.zero, i.size, i.bytes)) = some (some (.int .u16 0), 1, 2) := by kernel_rfl
  obtain ⟨i0, hi, hz0, hz1, hz2⟩ := info_parts hinfo
  obtain ⟨w', h1, h2, h3⟩ := run_makeSlice_full (P := Tryz.prog) w w.heap.size 89 93 i0 _ 1 Tryz.underlying89 hi hz0 hz1 .i64 .i64 z (by omega) (by rw [hz2]; omega) (by unfold maxLen; omega) (Nat.le_refl _)
  refine ⟨w', h1, ?_, Fr.grown h3 (fun k hk => by cases hk)⟩
  have e : (madeCells (Value.int .u16 0).cells (z * 1)).toList = nums .u16 (List.replicate z 0) := by
    simp [madeCells, Value.cells, nums]
    apply List.ext_getElem
    · simp
    · intro i h1 h2
      simp [Nat.mod_one]
  rw [e] at h2
  exact h2

set_option maxHeartbeats 4000000 in
set_option maxRecDepth 100000 in
theorem parseV6_any (l : List UInt8) (w : World) (hG : Glob w) (hl : l.length < 2147483648) :
    Calls Tryz.prog 92 #[.string (bs l)] w fun e w' => e = .returned (.tuple #[.agg (adr (isQ (parse6 l)) (oct (parse6 l))).toArray, .bool (isQ (parse6 l))]) ∧ Fr No w w' := by
  obtain ⟨Z, hZ⟩ : ∃ Z : Array Value, (adr false zeros).toArray = Z := ⟨_, rfl⟩
  have v24 := zero30
  rw [hZ] at v24
  have hz17 : Z.size = 17 := by rw [← hZ]; rfl
  have hz1 : ∀ u ∈ Z.toList, u.oneCell' = true := by rw [← hZ]; exact adr_one _ _
  have v39 : ∀ w, (zeroValue 93).run Tryz.prog w = .ok (.int .u16 0) w := fun w => by kernel_rfl
  have v37 : ∀ w, (zeroValue 89).run Tryz.prog w = .ok (.slice none 0 0) w := fun w => by kernel_rfl
  have hb := heap_alloc_new w (.cells Z 30)
  have hF := Fr.alloc No w (.cells Z 30)
  go_enter Tryz.func92, Tryz.ntmps92
  have t3 := Tryz.underlying3
  have u3 := Tryz.runUnderlying3
  have g3 := Tryz.isAgg3
  have z3 := Tryz.sizeOf3
  have t4 := Tryz.underlying4
  have u4 := Tryz.runUnderlying4
  have g4 := Tryz.isAgg4
  have z4 := Tryz.sizeOf4
  have t9 := Tryz.underlying9
  have u9 := Tryz.runUnderlying9
  have g9 := Tryz.isAgg9
  have z9 := Tryz.sizeOf9
  have t28 := Tryz.underlying28
  have u28 := Tryz.runUnderlying28
  have g28 := Tryz.isAgg28
  have z28 := Tryz.sizeOf28
  have t30 := Tryz.underlying30
  have u30 := Tryz.runUnderlying30
  have g30 := Tryz.isAgg30
  have z30 := Tryz.sizeOf30
  have t89 := Tryz.underlying89
  have u89 := Tryz.runUnderlying89
  have g89 := Tryz.isAgg89
  have z89 := Tryz.sizeOf89
  have t93 := Tryz.underlying93
  have u93 := Tryz.runUnderlying93
  have g93 := Tryz.isAgg93
  have z93 := Tryz.sizeOf93
  have t123 := Tryz.underlying123
  have u123 := Tryz.runUnderlying123
  have g123 := Tryz.isAgg123
  have z123 := Tryz.sizeOf123
  have c65 := Tryz.call65
  have c109 := Tryz.call109
  have c111 := Tryz.call111
  have c110 := Tryz.call110
  have mixed : Tryz.prog.follows .mixedOrders = true := by kernel_rfl
  obtain ⟨k24, hk24⟩ : ∃ k, k = 17 := ⟨_, rfl⟩
  rw [← hk24] at z30
  have nk24 : ¬ k24 = 0 := by omega
  have HK30 := Lib.hid hk24
  have hP : Tryz.prog = PD := rfl
  rw [hP] at t3 u3 g3 z3 t4 u4 g4 z4 t9 u9 g9 z9 t28 u28 g28 z28 t30 u30 g30 z30 t89 u89 g89 z89 t93 u93 g93 z93 t123 u123 g123 z123 c65 c109 c111 c110 mixed v24 v39 v37 ⊢
  have HP := Lib.hid hP.symm
  clear hP hk24
  have hzk : Z.size = k24 := by rw [HK30.out]; exact hz17
  have HZ := Lib.hid (And.intro hz17 (And.intro hz1 hZ))
  clear hz17 hz1 hZ
  go_wp2_with fail
  generalize w.alloc (.cells Z 30) = w1 at hb hF ⊢
  obtain ⟨n, hn⟩ : ∃ n, w.heap.size = n := ⟨_, rfl⟩
  rw [hn] at hb ⊢
  have HN : Hid (w.heap.size = n ∧ Fr No w w1 ∧ w1.heap[n]? = some (.cells Z 30 (0, 0)) ∧ Glob w1) := ⟨hn, hF, hb, hG.fr hF⟩
  have FAIL : Hid (∀ w3, Fr No w1 w3 → ∃ y, Sem.run PD (storeCells ⟨n, 0, none⟩ Z.toList 0) w3 = .ok () y ∧ y.heap[n]? = some (.cells Z 30 (0, 0)) ∧ Fr No w y) := fun w3 hf => by
    obtain ⟨y, h1, h2, h3⟩ := store_all (P := PD) Z.toList (hf.keep hb) (by rw [Array.length_toList]) HZ.out.2.1
    exact ⟨y, h1, by simpa using h2, (hF.trans hf).ofNew h3 fun k hk => .inr (by rw [hn, hk]; exact Nat.le_refl _)⟩
  have GOOD : Hid (∀ (b : Bool) (xs : List Nat) (w3 : World), Fr No w1 w3 → Bytes xs → ∃ y, Sem.run PD (storeCells ⟨n, 0, none⟩ (adr b xs) 0) w3 = .ok () y ∧ y.heap[n]? = some (.cells (adr b xs).toArray 30 (0, 0)) ∧ Fr No w y) := fun b xs w3 hf hx => by
    obtain ⟨y, h1, h2, h3⟩ := store_all (P := PD) (adr b xs) (hf.keep hb) (by rw [adr_length, hx.1, HZ.out.1]) (adr_one _ _)
    exact ⟨y, h1, h2, (hF.trans hf).ofNew h3 fun k hk => .inr (by rw [hn, hk]; exact Nat.le_refl _)⟩
  have HLL := Lib.hid hl
  clear hb hF hn hG hl
  refine (at_prog HP.out (cut2_any l _ HN.out.2.2.2 HLL.out)).mono ?_
  rintro e w2 ⟨rfl, hf2⟩
  have HF2 := Lib.hid hf2
  clear hf2
  cases hc : cut2 l with
  | none =>
    have HC : Hid (parse6 l = eight (grpP true l)) := by show _ = _; rw [parse6, hc]
    simp only [cutR]
    clear hc
    go_wp2_with fail
    refine (at_prog HP.out (parseGroups_any l true _ (HN.out.2.2.2.fr HF2.out) HLL.out)).mono ?_
    rintro e w3 ⟨hf3, ⟨gs, hgs, h10, a3, n3, c3, hn3, rfl, hown3⟩ | ⟨rfl, hbad⟩⟩
    · have hlt := grpP_lt hgs
      have H3 := Lib.hid (And.intro (HF2.out.trans hf3) (And.intro hgs (And.intro hn3 (And.intro (row_At hown3) hlt))))
      clear hf3 hgs hn3 hown3 hlt
      go_wp2_with fail
      refine (at_prog HP.out (parseGroups_any [] true _ (HN.out.2.2.2.fr H3.out.1) (by simp))).mono ?_
      rintro e w4 ⟨hf4, ⟨gs4, hgs4, h104, a4, n4, c4, hn4, rfl, hown4⟩ | ⟨rfl, hbad4⟩⟩
      · obtain rfl : gs4 = [] := by simpa [grpP] using hgs4.symm
        obtain rfl : n4 = 0 := by simpa using hn4.symm
        have H4 := Lib.hid (And.intro (H3.out.1.trans hf4) (And.intro (H3.out.2.2.2.1.1.frNo hf4) (row_At hown4)))
        clear hf4 hgs4 hn4 hown4
        go_wp2_with fail
        obtain ⟨bl, hbl⟩ : ∃ bl, w4.heap.size = bl := ⟨_, rfl⟩
        have hcb := heap_alloc_new w4 (.cells #[.slice a3 n3 c3, .slice a4 0 c4] 89)
        have hcf := Fr.alloc No w4 (.cells #[.slice a3 n3 c3, .slice a4 0 c4] 89)
        rw [hbl] at hcb ⊢
        generalize w4.alloc (.cells #[.slice a3 n3 c3, .slice a4 0 c4] 89) = w5 at hcb hcf ⊢
        refine (at_prog HP.out (concat_two bl n3 0 c3 c4 n3 89 a3 a4 gs [] w5 hcb (H4.out.2.1.frNo hcf) (At.nil _ _) H3.out.2.2.1 rfl H3.out.2.2.2.1.2 H4.out.2.2.2 (by omega) (by have := H3.out.2.2.1; omega))).mono ?_
        rintro e w6 ⟨a6, c6, rfl, hown6, hf6⟩
        rw [List.append_nil] at hown6
        have H6 := Lib.hid (And.intro ((H4.out.1.trans hcf).trans hf6) (At.own hown6))
        clear hcb hcf hf6 hown6 hbl
        go_wp2_with fail
        refine (at_prog HP.out (v6_any a6 n3 c6 gs _ H6.out.2 H3.out.2.2.1 H3.out.2.2.2.2)).mono ?_
        rintro e w7 ⟨rfl, hf7⟩
        have HBY := Lib.hid (v6_bytes H3.out.2.2.2.2)
        have HRES : Hid (isQ (parse6 l) = decide (n3 = 8) ∧ oct (parse6 l) = v6Of gs) := by
          have h := eight_any H3.out.2.1
          rw [H3.out.2.2.1] at h
          rw [HC.out]
          exact h
        obtain ⟨y, hst, hyb, hyf⟩ := GOOD.out (decide (n3 = 8)) (v6Of gs) w7 (H6.out.1.trans hf7) HBY.out
        have hv : (adr (decide (n3 = 8)) (v6Of gs)).length = k24 := by rw [HK30.out, adr_length, HBY.out.1]
        have HY := Lib.hid (And.intro hyb hyf)
        clear hyb hyf hf7
        generalize hV : adr (decide (n3 = 8)) (v6Of gs) = V at hst hv HY ⊢
        have HV := Lib.hid hV
        clear hV
        go_wp2_with fail
        refine bodyPost_ret_by (results_agg_tmp rfl _ (b := n) (k := 17) (cs := V.toArray) (Tryz.isAgg30 _) (Tryz.sizeOf30 _) rfl (load_all HY.out.1 (by rw [← HV.out, adr_length, HBY.out.1]))) rfl ?_
        exact ⟨by rw [← HV.out, HRES.out.1, HRES.out.2]; rfl, HY.out.2⟩
      · exact absurd (hbad4 [] rfl) (by simp)
    · have H3 := Lib.hid (And.intro (HF2.out.trans hf3) hbad)
      clear hf3 hbad
      go_wp2_with fail
      refine (at_prog HP.out (parseGroups_any [] true _ (HN.out.2.2.2.fr H3.out.1) (by simp))).mono ?_
      rintro e w4 ⟨hf4, ⟨gs4, hgs4, h104, a4, n4, c4, hn4, rfl, hown4⟩ | ⟨rfl, hbad4⟩⟩
      · obtain ⟨y, hst, hyb, hyf⟩ := FAIL.out w4 (H3.out.1.trans hf4)
        have HY := Lib.hid (And.intro hyb hyf)
        clear hyb hyf hf4 hgs4 hn4 hown4
        go_wp2_with fail
        refine bodyPost_ret_by (results_agg_tmp rfl _ (b := n) (k := 17) (cs := Z) (Tryz.isAgg30 _) (Tryz.sizeOf30 _) rfl (load_block HY.out.1 HZ.out.1 (fun j v hv => by simpa using hv))) rfl ?_
        exact ⟨by rw [HC.out, eight_none H3.out.2, ← HZ.out.2.2]; rfl, HY.out.2⟩
      · exact absurd (hbad4 [] rfl) (by simp)
  | some p =>
    obtain ⟨a, b⟩ := p
    have HC : Hid (parse6 l = fill (grpP false a) (grpP true b)) := by show _ = _; rw [parse6, hc]
    have hlen := cut2_length hc
    have hla : a.length < 2147483648 := by have := HLL.out; omega
    have hlb : b.length < 2147483648 := by have := HLL.out; omega
    simp only [cutR]
    clear hc
    go_wp2_with fail
    refine (at_prog HP.out (parseGroups_any a false _ (HN.out.2.2.2.fr HF2.out) hla)).mono ?_
    rintro e w3 ⟨hf3, ⟨gs, hgs, h10, a3, n3, c3, hn3, rfl, hown3⟩ | ⟨rfl, hbad⟩⟩
    · have hlt := grpP_lt hgs
      have H3 := Lib.hid (And.intro (HF2.out.trans hf3) (And.intro hgs (And.intro hn3 (And.intro (row_At hown3) hlt))))
      clear hf3 hgs hown3 hlt
      go_wp2_with fail
      refine (at_prog HP.out (parseGroups_any b true _ (HN.out.2.2.2.fr H3.out.1) hlb)).mono ?_
      rintro e w4 ⟨hf4, ⟨gs4, hgs4, h104, a4, n4, c4, hn4, rfl, hown4⟩ | ⟨rfl, hbad4⟩⟩
      · have hlt4 := grpP_lt hgs4
        have H4 := Lib.hid (And.intro (H3.out.1.trans hf4) (And.intro (H3.out.2.2.2.1.1.frNo hf4) (And.intro (row_At hown4) (And.intro hgs4 (And.intro hn4 hlt4)))))
        have hn3' : n3 ≤ 10 := by omega
        have hn4' : n4 ≤ 10 := by omega
        have HF6 : Hid (fill (grpP false a) (grpP true b) = if n3 + n4 ≤ 7 then some (gs ++ (List.replicate (8 - n3 - n4) 0 ++ gs4)) else none) := by
          show _ = _
          rw [H3.out.2.1, hgs4, ← hn3, ← hn4]; rfl
        clear hf4 hgs4 hn4 hown4 hlt4 hn3 h10 h104
        by_cases h7 : n3 + n4 ≤ 7
        · have p1 : ¬ (8 : Int) - (n3 : Int) - (n4 : Int) < 1 := by omega
          obtain ⟨z, hz⟩ : ∃ z : Nat, (8 : Int) - (n3 : Int) - (n4 : Int) = (z : Int) := ⟨8 - n3 - n4, by omega⟩
          have hz1 : ¬ (z : Int) < 1 := by omega
          have hz2 : (0 : Int) ≤ (z : Int) := by omega
          have hz8 : z ≤ 8 := by omega
          have HZN : Hid (z = 8 - n3 - n4) := by show _ = _; omega
          clear p1
          obtain ⟨w5, hmk, hown5, hf5⟩ := make16 z w4 hz8
          have HM := Lib.hid (And.intro hown5 (And.intro hf5 ((H4.out.2.2.1.1).frNo hf5)))
          clear hown5 hf5
          go_wp2_with (first | (at_builtin; refine wpList_append_vals el16 rfl (.tmp 48) (.tmp 49) rfl w4.heap.size _ z _ rfl HM.out.1 a4 n4 c4 (nums .u16 gs4) rfl (nums_one _ _) (by rw [nums_length]; exact H4.out.2.2.2.2.1) HM.out.2.2 H4.out.2.2.1.2 (by unfold maxLen; omega) (by omega) HM.out.2.1.size ?_; intro a6 c6 w6 hown6 hg6 hat6; have H6 : Hid (At w6 a6 (nums .u16 (List.replicate z 0 ++ gs4)) ∧ (a6 = none → c6 = 0) ∧ Fr No w4 w6) := ⟨(by rw [nums_append]; exact At.own hown6), (by obtain ⟨a', c', he, hc, hn', _⟩ := row_any hown6; cases he; exact hn'), HM.out.2.1.own_grown HM.out.1 (Nat.le_refl _) hg6⟩; clear hown6 hg6 hat6) | fail)
          obtain ⟨t, ht⟩ : ∃ t, z + n4 = t := ⟨_, rfl⟩
          rw [ht]
          obtain ⟨bl, hbl⟩ : ∃ bl, w6.heap.size = bl := ⟨_, rfl⟩
          have hcb := heap_alloc_new w6 (.cells #[.slice a3 n3 c3, .slice a6 t c6] 89)
          have hcf := Fr.alloc No w6 (.cells #[.slice a3 n3 c3, .slice a6 t c6] 89)
          rw [hbl] at hcb ⊢
          generalize w6.alloc (.cells #[.slice a3 n3 c3, .slice a6 t c6] 89) = w7 at hcb hcf ⊢
          refine (at_prog HP.out (concat_two bl n3 t c3 c6 8 89 a3 a6 gs (List.replicate z 0 ++ gs4) w7 hcb ((H4.out.2.1.frNo H6.out.2.2).frNo hcf) (H6.out.1.frNo hcf) H3.out.2.2.1 (by rw [List.length_append, List.length_replicate, H4.out.2.2.2.2.1]; exact ht) H3.out.2.2.2.1.2 H6.out.2.1 (by have := HZN.out; omega) (by omega))).mono ?_
          rintro e w8 ⟨a8, c8, rfl, hown8, hf8⟩
          have H8 := Lib.hid (And.intro (((H4.out.1.trans H6.out.2.2).trans hcf).trans hf8) (At.own hown8))
          clear hcb hcf hf8 hown8 hbl
          go_wp2_with fail
          have HLTS : Hid ((gs ++ (List.replicate z 0 ++ gs4)).length = 8 ∧ ∀ g ∈ gs ++ (List.replicate z 0 ++ gs4), g < 65536) := by
            refine ⟨?_, ?_⟩
            · rw [List.length_append, List.length_append, List.length_replicate, H4.out.2.2.2.2.1, H3.out.2.2.1]; have := HZN.out; omega
            · intro g hg
              rcases List.mem_append.1 hg with hg | hg
              · exact H3.out.2.2.2.2 g hg
              · rcases List.mem_append.1 hg with hg | hg
                · have := List.eq_of_mem_replicate hg; omega
                · exact H4.out.2.2.2.2.2 g hg
          refine (at_prog HP.out (v6_any a8 8 c8 (gs ++ (List.replicate z 0 ++ gs4)) _ H8.out.2 HLTS.out.1 HLTS.out.2)).mono ?_
          rintro e w9 ⟨rfl, hf9⟩
          have HBY := Lib.hid (v6_bytes HLTS.out.2)
          have HRES : Hid (isQ (parse6 l) = true ∧ oct (parse6 l) = v6Of (gs ++ (List.replicate z 0 ++ gs4))) := by
            rw [HC.out, HF6.out, if_pos h7, ← HZN.out, v6Of, if_pos HLTS.out.1]
            exact ⟨rfl, rfl⟩
          simp only [decide_true]
          obtain ⟨y, hst, hyb, hyf⟩ := GOOD.out true (v6Of (gs ++ (List.replicate z 0 ++ gs4))) w9 (H8.out.1.trans hf9) HBY.out
          have hv : (adr true (v6Of (gs ++ (List.replicate z 0 ++ gs4)))).length = k24 := by rw [HK30.out, adr_length, HBY.out.1]
          have HY := Lib.hid (And.intro hyb hyf)
          clear hyb hyf hf9
          generalize hV : adr true (v6Of (gs ++ (List.replicate z 0 ++ gs4))) = V at hst hv HY ⊢
          have HV := Lib.hid hV
          clear hV
          go_wp2_with fail
          refine bodyPost_ret_by (results_agg_tmp rfl _ (b := n) (k := 17) (cs := V.toArray) (Tryz.isAgg30 _) (Tryz.sizeOf30 _) rfl (load_all HY.out.1 (by rw [← HV.out, adr_length, HBY.out.1]))) rfl ?_
          exact ⟨by rw [← HV.out, HRES.out.1, HRES.out.2]; rfl, HY.out.2⟩
        · have p1 : (8 : Int) - (n3 : Int) - (n4 : Int) < 1 := by omega
          obtain ⟨y, hst, hyb, hyf⟩ := FAIL.out w4 H4.out.1
          have HY := Lib.hid (And.intro hyb hyf)
          clear hyb hyf
          go_wp2_with fail
          refine bodyPost_ret_by (results_agg_tmp rfl _ (b := n) (k := 17) (cs := Z) (Tryz.isAgg30 _) (Tryz.sizeOf30 _) rfl (load_block HY.out.1 HZ.out.1 (fun j v hv => by simpa using hv))) rfl ?_
          exact ⟨by rw [HC.out, HF6.out, if_neg h7, ← HZ.out.2.2]; rfl, HY.out.2⟩
      · have HB4 := Lib.hid hbad4
        obtain ⟨y, hst, hyb, hyf⟩ := FAIL.out w4 (H3.out.1.trans hf4)
        have HY := Lib.hid (And.intro hyb hyf)
        clear hyb hyf hf4 hbad4
        go_wp2_with fail
        refine bodyPost_ret_by (results_agg_tmp rfl _ (b := n) (k := 17) (cs := Z) (Tryz.isAgg30 _) (Tryz.sizeOf30 _) rfl (load_block HY.out.1 HZ.out.1 (fun j v hv => by simpa using hv))) rfl ?_
        exact ⟨by rw [HC.out, fill_none2 HB4.out, ← HZ.out.2.2]; rfl, HY.out.2⟩
    · have H3 := Lib.hid (And.intro (HF2.out.trans hf3) hbad)
      clear hf3 hbad
      go_wp2_with fail
      refine (at_prog HP.out (parseGroups_any b true _ (HN.out.2.2.2.fr H3.out.1) hlb)).mono ?_
      rintro e w4 ⟨hf4, ⟨gs4, hgs4, h104, a4, n4, c4, hn4, rfl, hown4⟩ | ⟨rfl, hbad4⟩⟩
      · obtain ⟨y, hst, hyb, hyf⟩ := FAIL.out w4 (H3.out.1.trans hf4)
        have HY := Lib.hid (And.intro hyb hyf)
        clear hyb hyf hf4 hgs4 hn4 hown4
        go_wp2_with fail
        refine bodyPost_ret_by (results_agg_tmp rfl _ (b := n) (k := 17) (cs := Z) (Tryz.isAgg30 _) (Tryz.sizeOf30 _) rfl (load_block HY.out.1 HZ.out.1 (fun j v hv => by simpa using hv))) rfl ?_
        exact ⟨by rw [HC.out, fill_none1 H3.out.2, ← HZ.out.2.2]; rfl, HY.out.2⟩
      · obtain ⟨y, hst, hyb, hyf⟩ := FAIL.out w4 (H3.out.1.trans hf4)
        have HY := Lib.hid (And.intro hyb hyf)
        clear hyb hyf hf4 hbad4
        go_wp2_with fail
        refine bodyPost_ret_by (results_agg_tmp rfl _ (b := n) (k := 17) (cs := Z) (Tryz.isAgg30 _) (Tryz.sizeOf30 _) rfl (load_block HY.out.1 HZ.out.1 (fun j v hv => by simpa using hv))) rfl ?_
        exact ⟨by rw [HC.out, fill_none1 H3.out.2, ← HZ.out.2.2]; rfl, HY.out.2⟩
end Go.Proofs.YtmhnailcmlomiaaGreatDoor
namespace Go.Proofs.YtmhnailcmlomiaaGreatDoor
open Go.ChangeShapes Go.WideShapes Go.ChangeAt Go.RowKit
set_option linter.unusedVariables false

theorem res6 {l : List UInt8} (h : l.contains 58 = true) : resB (parseS l) = isQ (parse6 l) ∧ resX (parseS l) = oct (parse6 l) ∧ (parseS l).isSome = isQ (parse6 l) := by
  rw [parseS, if_pos h]
  cases parse6 l <;> exact ⟨rfl, rfl, rfl⟩
theorem res4 {l : List UInt8} (h : l.contains 58 = false) : resB (parseS l) = false ∧ resX (parseS l) = quad (par 3 l) ∧ (parseS l).isSome = isQ (par 3 l) := by
  rw [parseS, h, if_neg (by simp)]
  cases hp : par 3 l with
  | none => exact ⟨rfl, rfl, rfl⟩
  | some xs =>
    have h4 := par_length 3 l xs hp
    match xs, h4 with
    | [a, b, c, d], _ => exact ⟨rfl, rfl, rfl⟩
theorem resX_bytes (l : List UInt8) : Bytes (resX (parseS l)) := by
  cases h : l.contains 58 with
  | true =>
    rw [(res6 h).2.1]
    cases hp : parse6 l with
    | none => exact zeros_bytes
    | some gs =>
      have hl : gs.length = 8 ∧ ∀ g ∈ gs, g < 65536 := by
        unfold parse6 at hp
        split at hp
        · cases hg : grpP true l with
          | none => rw [hg] at hp; cases hp
          | some hs =>
            rw [hg] at hp
            unfold eight at hp
            split at hp
            · rename_i h1
              cases h1
              split at hp
              · rename_i h8; cases hp; exact ⟨h8, grpP_lt hg⟩
              · cases hp
            · cases hp
        · rename_i a b hc
          cases hg : grpP false a with
          | none => rw [hg] at hp; cases hp
          | some gs1 =>
            cases hh : grpP true b with
            | none => rw [hg, hh] at hp; cases hp
            | some gs2 =>
              rw [hg, hh] at hp
              have e : fill (some gs1) (some gs2) = if gs1.length + gs2.length ≤ 7 then some (gs1 ++ (List.replicate (8 - gs1.length - gs2.length) 0 ++ gs2)) else none := rfl
              rw [e] at hp
              split at hp
              · rename_i h7
                cases hp
                refine ⟨by simp; omega, ?_⟩
                intro g hg'
                rcases List.mem_append.1 hg' with hg' | hg'
                · exact grpP_lt hg g hg'
                · rcases List.mem_append.1 hg' with hg' | hg'
                  · have := List.eq_of_mem_replicate hg'; omega
                  · exact grpP_lt hh g hg'
              · cases hp
      exact ⟨by rw [oct, pack_length, hl.1], pack_bytes hl.2⟩
  | false =>
    rw [(res4 h).2.1]
    cases hp : par 3 l with
    | none => exact zeros_bytes
    | some xs =>
      have h4 := par_length 3 l xs hp
      have hlt := par_lt 3 l xs hp
      match xs, h4 with
      | [a, b, c, d], _ => exact v4_bytes (hlt a (by simp)) (hlt b (by simp)) (hlt c (by simp)) (hlt d (by simp))

set_option maxHeartbeats 2000000 in
set_option maxRecDepth 100000 in
theorem parse_any (l : List UInt8) (w : World) (hG : Glob w) (hl : l.length < 2147483648) :
    Calls Tryz.prog 66 #[.string (bs l)] w fun e w' => e = .returned (.tuple #[.agg (adr (resB (parseS l)) (resX (parseS l))).toArray, .bool (parseS l).isSome]) ∧ Fr No w w' := by
  obtain ⟨Z, hZ⟩ : ∃ Z : Array Value, (adr false zeros).toArray = Z := ⟨_, rfl⟩
  have v24 := zero30
  rw [hZ] at v24
  have hz17 : Z.size = 17 := by rw [← hZ]; rfl
  have hb := heap_alloc_new w (.cells Z 30)
  have hF := Fr.alloc No w (.cells Z 30)
  have HX := Lib.hid (resX_bytes l)
  have STO : Hid (∀ w3, Fr No (w.alloc (.cells Z 30)) w3 → ∃ y, Sem.run PD (storeCells ⟨w.heap.size, 0, none⟩ (adr (resB (parseS l)) (resX (parseS l))) 0) w3 = .ok () y ∧ y.heap[w.heap.size]? = some (.cells (adr (resB (parseS l)) (resX (parseS l))).toArray 30 (0, 0)) ∧ Fr No w y) := fun w3 hf => by
    obtain ⟨y, h1, h2, h3⟩ := store_all (P := PD) (adr (resB (parseS l)) (resX (parseS l))) (hf.keep hb) (by rw [adr_length, HX.out.1, hz17]) (adr_one _ _)
    exact ⟨y, h1, h2, (hF.trans hf).ofNew h3 fun k hk => .inr (by omega)⟩
  have HG := Lib.hid (And.intro hG hl)
  clear hG hl hb hF
  cases hc : l.contains 58 with
  | true =>
    obtain ⟨r1, r2, r3⟩ := res6 hc
    have HR := Lib.hid (And.intro r1 (And.intro r2 r3))
    clear r1 r2 r3
    go_enter Tryz.func66, Tryz.ntmps66
    have t4 := Tryz.underlying4
    have u4 := Tryz.runUnderlying4
    have g4 := Tryz.isAgg4
    have z4 := Tryz.sizeOf4
    have t9 := Tryz.underlying9
    have u9 := Tryz.runUnderlying9
    have g9 := Tryz.isAgg9
    have z9 := Tryz.sizeOf9
    have t30 := Tryz.underlying30
    have u30 := Tryz.runUnderlying30
    have g30 := Tryz.isAgg30
    have z30 := Tryz.sizeOf30
    have c91 := Tryz.call91
    have c92 := Tryz.call92
    have c93 := Tryz.call93
    have mixed : Tryz.prog.follows .mixedOrders = true := by kernel_rfl
    obtain ⟨k24, hk24⟩ : ∃ k, k = 17 := ⟨_, rfl⟩
    rw [← hk24] at z30
    have nk24 : ¬ k24 = 0 := by omega
    have HK30 := Lib.hid hk24
    have hP : Tryz.prog = PD := rfl
    rw [hP] at t4 u4 g4 z4 t9 u9 g9 z9 t30 u30 g30 z30 c91 c92 c93 mixed v24 ⊢
    have HP := Lib.hid hP.symm
    clear hP hk24
    go_wp2_with (first | (go_at_call 91; refine (at_prog HP.out (contains_any l 58 _)).mono ?_; rintro e w3 ⟨rfl, rfl⟩; rw [hc]) | fail)
    have hv6 := parseV6_any l (w.alloc (.cells Z 30)) (HG.out.1.fr (Fr.alloc No _ _)) HG.out.2
    rw [← HR.out.1, ← HR.out.2.1] at hv6
    refine (at_prog HP.out hv6).mono ?_
    rintro e w4 ⟨rfl, hf4⟩
    obtain ⟨y, hst, hyb, hyf⟩ := STO.out w4 hf4
    have hv : (adr (resB (parseS l)) (resX (parseS l))).length = k24 := by rw [HK30.out, adr_length, HX.out.1]
    have HY := Lib.hid (And.intro hyb hyf)
    have HB : Hid (resB (parseS l) = (parseS l).isSome) := by show _ = _; rw [HR.out.1, HR.out.2.2]
    clear hyb hyf hf4 hv6
    rw [HB.out] at hst hv HY ⊢
    generalize hV : adr (parseS l).isSome (resX (parseS l)) = V at hst hv HY ⊢
    have HV := Lib.hid hV
    clear hV
    go_wp2_with fail
    refine bodyPost_ret_by (results_agg_tmp rfl _ (b := w.heap.size) (k := 17) (cs := V.toArray) (Tryz.isAgg30 _) (Tryz.sizeOf30 _) rfl (load_all HY.out.1 (by rw [← HV.out, adr_length, HX.out.1]))) rfl ?_
    exact ⟨by rw [HB.out, ← HV.out]; rfl, HY.out.2⟩
  | false =>
    obtain ⟨r1, r2, r3⟩ := res4 hc
    have HR := Lib.hid (And.intro r1 (And.intro r2 r3))
    clear r1 r2 r3
    go_enter Tryz.func66, Tryz.ntmps66
    have t4 := Tryz.underlying4
    have u4 := Tryz.runUnderlying4
    have g4 := Tryz.isAgg4
    have z4 := Tryz.sizeOf4
    have t9 := Tryz.underlying9
    have u9 := Tryz.runUnderlying9
    have g9 := Tryz.isAgg9
    have z9 := Tryz.sizeOf9
    have t30 := Tryz.underlying30
    have u30 := Tryz.runUnderlying30
    have g30 := Tryz.isAgg30
    have z30 := Tryz.sizeOf30
    have c91 := Tryz.call91
    have c92 := Tryz.call92
    have c93 := Tryz.call93
    have mixed : Tryz.prog.follows .mixedOrders = true := by kernel_rfl
    obtain ⟨k24, hk24⟩ : ∃ k, k = 17 := ⟨_, rfl⟩
    rw [← hk24] at z30
    have nk24 : ¬ k24 = 0 := by omega
    have HK30 := Lib.hid hk24
    have hP : Tryz.prog = PD := rfl
    rw [hP] at t4 u4 g4 z4 t9 u9 g9 z9 t30 u30 g30 z30 c91 c92 c93 mixed v24 ⊢
    have HP := Lib.hid hP.symm
    clear hP hk24
    go_wp2_with (first | (go_at_call 91; refine (at_prog HP.out (contains_any l 58 _)).mono ?_; rintro e w3 ⟨rfl, rfl⟩; rw [hc]) | fail)
    have hv6 := parseV4_any l (w.alloc (.cells Z 30)) (HG.out.1.fr (Fr.alloc No _ _)) HG.out.2
    rw [← HR.out.2.1, ← HR.out.2.2] at hv6
    refine (at_prog HP.out hv6).mono ?_
    rintro e w4 ⟨rfl, hf4⟩
    obtain ⟨y, hst, hyb, hyf⟩ := STO.out w4 hf4
    have hv : (adr (resB (parseS l)) (resX (parseS l))).length = k24 := by rw [HK30.out, adr_length, HX.out.1]
    have HY := Lib.hid (And.intro hyb hyf)
    clear hyb hyf hf4 hv6
    rw [HR.out.1] at hst hv HY
    generalize hV : adr false (resX (parseS l)) = V at hst hv HY ⊢
    have HV := Lib.hid hV
    clear hV
    go_wp2_with fail
    refine bodyPost_ret_by (results_agg_tmp rfl _ (b := w.heap.size) (k := 17) (cs := V.toArray) (Tryz.isAgg30 _) (Tryz.sizeOf30 _) rfl (load_all HY.out.1 (by rw [← HV.out, adr_length, HX.out.1]))) rfl ?_
    exact ⟨by rw [HR.out.1, ← HV.out]; rfl, HY.out.2⟩
end Go.Proofs.YtmhnailcmlomiaaGreatDoor
