/-
  CONTRACT of package host's parseHost, over this seat's translation: what the call returns.
  Conditions: the string is shorter than 2 to the 31; the package variables are as Glob says.
-/
import Derived.Test.YtdnfmilihfkhmaaDoorN8
namespace Go.Proofs.YtdnfmilihfkhmaaDoor
open Go.ChangeShapes Go.WideShapes Go.ChangeAt Go.RowKit
set_option linter.unusedVariables false

/-- Whether these bytes stand in brackets. -/
def brk (l : List UInt8) : Bool := decide (2 ≤ l.length) && decide (l.head? = some 91) && decide (l.getLast? = some 93)
/-- What stands between the first byte and the last. -/
def mid (l : List UInt8) : List UInt8 := (l.drop 1).take (l.length - 2)
/-- What a name, where there is one, is as a string. -/
def nmS : Option (List UInt8) → ByteArray
  | some n => bs n
  | none => ⟨#[]⟩
/-- The target without a port that these bytes are written for, and whether there is one. -/
def phT (l : List UInt8) : List Value := if brk l then paT (mid l) true else if pa l false then paT l false else tgt (nmS (nameP l)) false zeros 0
def phB (l : List UInt8) : Bool := if brk l then pa (mid l) true else if pa l false then true else (nameP l).isSome
theorem ansN_eq (o : Option (List UInt8)) : ansN o = .tuple #[.string (nmS o), .bool o.isSome] := by cases o <;> rfl
theorem paT_tgt (l : List UInt8) (v6 : Bool) : ∃ b xs, paT l v6 = tgt ⟨#[]⟩ b xs 0 ∧ Bytes xs := by
  by_cases h : pa l v6 = true
  · exact ⟨_, _, by rw [paT, if_pos h], resX_bytes l⟩
  · exact ⟨false, zeros, by rw [paT, if_neg h]; rfl, zeros_bytes⟩
theorem phT_tgt (l : List UInt8) : ∃ n b xs, phT l = tgt n b xs 0 ∧ Bytes xs := by
  unfold phT
  split
  · obtain ⟨b, xs, h, k⟩ := paT_tgt (mid l) true; exact ⟨_, b, xs, h, k⟩
  · split
    · obtain ⟨b, xs, h, k⟩ := paT_tgt l false; exact ⟨_, b, xs, h, k⟩
    · exact ⟨_, false, zeros, rfl, zeros_bytes⟩
theorem paT_len (l : List UInt8) (v6 : Bool) : (paT l v6).toArray.size = 19 ∧ ∀ u ∈ (paT l v6).toArray.toList, u.oneCell' = true := by
  obtain ⟨b, xs, h, k⟩ := paT_tgt l v6
  rw [h]
  exact ⟨by rw [List.size_toArray]; exact tgt_length _ _ _ _ k.1, by intro u hu; exact tgt_one _ _ _ _ u (by simpa using hu)⟩

set_option maxHeartbeats 8000000 in
set_option maxRecDepth 100000 in
theorem phost_any (l : List UInt8) (w : World) (hG : Glob w) (hl : l.length < 2147483648) :
    Calls Tryd.prog 78 #[.string (bs l)] w fun e w' => e = .returned (.tuple #[.agg (phT l).toArray, .bool (phB l)]) ∧ Fr No w w' := by
  obtain ⟨Z, hZ⟩ : ∃ Z : Array Value, noT.toArray = Z := ⟨_, rfl⟩
  have v62 := zero62
  rw [hZ] at v62
  have hz19 : Z.size = 19 := by rw [← hZ]; rfl
  have hsz : (bs l).size = l.length := rfl
  have HIX : Hid (∀ (i : Nat) (x : UInt8) (w : World), l[i]? = some x → Sem.run Tryd.prog (Instr.index 9 (.string (bs l)) (.int .i64 i)) w = .ok (.int .u8 (x.toNat : Int)) w) := fun i x w h => bs_index h w
  have HG := Lib.hid (And.intro hG hl)
  clear hG
  cases hbr : brk l with
  | true =>
    have hbr' := hbr
    unfold brk at hbr'
    simp only [Bool.and_eq_true, decide_eq_true_eq] at hbr'
    obtain ⟨⟨h2, h91⟩, h93⟩ := hbr'
    obtain ⟨k, hk⟩ : ∃ k, l.length = k + 2 := ⟨l.length - 2, by omega⟩
    have hx0 : ∀ w, Sem.run Tryd.prog (Instr.index 9 (.string (bs l)) (.int .i64 0)) w = .ok (.int .u8 91) w := fun w => HIX.out 0 91 w (by rw [← List.head?_eq_getElem?]; exact h91)
    have hxz : ∀ w, Sem.run Tryd.prog (Instr.index 9 (.string (bs l)) (.int .i64 ((k : Int) + 1))) w = .ok (.int .u8 93) w := fun w => HIX.out (k + 1) 93 w (by rw [List.getLast?_eq_getElem?, hk] at h93; exact h93)
    have hex : (bs l).extract 1 (k + 1) = bs (mid l) := by rw [bs_extract, mid, hk]; rfl
    have hk31 : k < 2147483648 := by omega
    have HV : Hid (phT l = paT (mid l) true ∧ phB l = pa (mid l) true) := ⟨by rw [phT, if_pos hbr], by rw [phB, if_pos hbr]⟩
    have HC : Hid (∀ w, Glob w → Calls Tryd.prog 96 #[.string (bs (mid l)), .bool true] w fun e w' => e = .returned (.tuple #[.agg (paT (mid l) true).toArray, .bool (pa (mid l) true)]) ∧ Fr No w w') := fun w h => paddr_any (mid l) true w h (by rw [mid, List.length_take, List.length_drop]; omega)
    obtain ⟨T, hT⟩ : ∃ T, (paT (mid l) true).toArray = T := ⟨_, rfl⟩
    have hTl := paT_len (mid l) true
    rw [hT] at HC hTl
    have HT := Lib.hid (And.intro hTl.1 (And.intro hTl.2 hT))
    clear hTl
    have hT19 := HT.out.1
    generalize pa (mid l) true = ok at HC HV
    generalize bs (mid l) = sm at HC hex
    rw [hk] at hsz
    generalize bs l = s at hsz HIX hx0 hxz hex ⊢
    clear HIX hT hbr h2 h91 h93 hl hZ
    have c1 : ((k : Int) + 1 + 1) - 1 = (k : Int) + 1 := by omega
    have c2 : ((k : Int) + 2) - 1 = (k : Int) + 1 := by omega
    have c3 : ((k : Int) + 1).toNat = k + 1 := by omega
    have q1 : (1 : Int) ≤ (k : Int) + 1 := by omega
    have q2 : (k : Int) + 1 ≤ (k : Int) + 2 := by omega
    have q3 : (0 : Int) ≤ (k : Int) + 1 := by omega
    go_enter Tryd.func78, Tryd.ntmps78
    have t3 := Tryd.underlying3
    have u3 := Tryd.runUnderlying3
    have g3 := Tryd.isAgg3
    have z3 := Tryd.sizeOf3
    have t4 := Tryd.underlying4
    have u4 := Tryd.runUnderlying4
    have g4 := Tryd.isAgg4
    have z4 := Tryd.sizeOf4
    have t5 := Tryd.underlying5
    have u5 := Tryd.runUnderlying5
    have g5 := Tryd.isAgg5
    have z5 := Tryd.sizeOf5
    have t9 := Tryd.underlying9
    have u9 := Tryd.runUnderlying9
    have g9 := Tryd.isAgg9
    have z9 := Tryd.sizeOf9
    have t62 := Tryd.underlying62
    have u62 := Tryd.runUnderlying62
    have g62 := Tryd.isAgg62
    have z62 := Tryd.sizeOf62
    have c96 := Tryd.call96
    have c52 := Tryd.call52
    have mixed : Tryd.prog.follows .mixedOrders = true := by kernel_rfl
    obtain ⟨k62, hk62⟩ : ∃ k, k = 19 := ⟨_, rfl⟩
    rw [← hk62] at z62
    have nk62 : ¬ k62 = 0 := by omega
    have HK62 := Lib.hid hk62
    have hP : Tryd.prog = PD := rfl
    rw [hP] at t3 u3 g3 z3 t4 u4 g4 z4 t5 u5 g5 z5 t9 u9 g9 z9 t62 u62 g62 z62 c96 c52 mixed v62 hx0 hxz ⊢
    have HP := Lib.hid hP.symm
    clear hP hk62
    have hZk : Z.size = k62 := by rw [HK62.out]; exact hz19
    have hTk : T.size = k62 := by rw [HK62.out]; exact hT19
    clear hz19 hT19
    go_wp2_with fail
    refine (at_prog HP.out (HC.out _ (HG.out.1.fr (Fr.alloc No _ _)))).mono ?_
    rintro e w3 ⟨rfl, hf3⟩
    have hb0 := hf3.keep (heap_alloc_new w (.cells Z 62))
    obtain ⟨y2, hs2, hb2, hg2⟩ := store_all (P := PD) T.toList hb0 (by rw [Array.length_toList, hTk, hZk]) HT.out.2.1
    have hb3 : y2.heap[w.heap.size]? = some (.cells T 62 (0, 0)) := by simpa using hb2
    have HL := Lib.hid (And.intro hb3 (((Fr.alloc No w (.cells Z 62)).trans hf3).ofNew hg2 fun k hk => .inr (by omega)))
    clear hb2 hg2 hb3 hb0 hf3
    go_wp2_with fail
    refine bodyPost_ret_by (results_agg_tmp rfl _ (b := w.heap.size) (k := 19) (cs := T) (Tryd.isAgg62 _) (Tryd.sizeOf62 _) rfl (load_block HL.out.1 (by rw [← HK62.out]; exact hTk) (fun j v hv => by simpa using hv))) rfl ?_
    exact ⟨by rw [HV.out.1, HV.out.2, HT.out.2.2]; rfl, HL.out.2⟩
  | false =>
    have hV1 : phT l = if pa l false then paT l false else tgt (nmS (nameP l)) false zeros 0 := by rw [phT, if_neg (by rw [hbr]; simp)]
    have hV2 : phB l = if pa l false then true else (nameP l).isSome := by rw [phB, if_neg (by rw [hbr]; simp)]
    have HC : Hid (∀ w, Glob w → Calls Tryd.prog 96 #[.string (bs l), .bool false] w fun e w' => e = .returned (.tuple #[.agg (paT l false).toArray, .bool (pa l false)]) ∧ Fr No w w') := fun w h => paddr_any l false w h HG.out.2
    have HN : Hid (∀ w, Calls Tryd.prog 52 #[.string (bs l)] w fun e w' => e = .returned (.tuple #[.string (nmS (nameP l)), .bool (nameP l).isSome]) ∧ Fr No w w') := fun w => by rw [← ansN_eq]; exact pname_any l HG.out.2 w
    obtain ⟨T, hT⟩ : ∃ T, (paT l false).toArray = T := ⟨_, rfl⟩
    obtain ⟨N, hN⟩ : ∃ N, (tgt (nmS (nameP l)) false zeros 0).toArray = N := ⟨_, rfl⟩
    have hTl := paT_len l false
    have hN1 : N.size = 19 ∧ ∀ u ∈ N.toList, u.oneCell' = true := by rw [← hN]; exact ⟨rfl, by intro u hu; exact tgt_one _ _ _ _ u (by simpa using hu)⟩
    have hput : Z.setIfInBounds 0 (.string (nmS (nameP l))) = N := by rw [← hN, ← hZ]; rfl
    have HNN := Lib.hid (And.intro hN1.2 hN)
    rw [hT] at HC hTl
    have HT := Lib.hid (And.intro hTl.1 (And.intro hTl.2 hT))
    clear hTl
    have hT19 := HT.out.1
    have hN19 := hN1.1
    generalize (nameP l).isSome = nb at HN hV2
    generalize nmS (nameP l) = sn at HN hV1 hput HNN
    generalize pa l false = ok at HC hV1 hV2
    clear hT hN hN1 hZ
    by_cases h2 : l.length < 2
    · have p2 : ¬ (2 : Int) ≤ (l.length : Int) := by omega
      generalize l.length = ln at hsz p2
      generalize bs l = s at hsz HC HN ⊢
      clear HIX hbr hl h2
      go_enter Tryd.func78, Tryd.ntmps78
      have t3 := Tryd.underlying3
      have u3 := Tryd.runUnderlying3
      have g3 := Tryd.isAgg3
      have z3 := Tryd.sizeOf3
      have t4 := Tryd.underlying4
      have u4 := Tryd.runUnderlying4
      have g4 := Tryd.isAgg4
      have z4 := Tryd.sizeOf4
      have t5 := Tryd.underlying5
      have u5 := Tryd.runUnderlying5
      have g5 := Tryd.isAgg5
      have z5 := Tryd.sizeOf5
      have t9 := Tryd.underlying9
      have u9 := Tryd.runUnderlying9
      have g9 := Tryd.isAgg9
      have z9 := Tryd.sizeOf9
      have t24 := Tryd.underlying24
      have u24 := Tryd.runUnderlying24
      have g24 := Tryd.isAgg24
      have z24 := Tryd.sizeOf24
      have t62 := Tryd.underlying62
      have u62 := Tryd.runUnderlying62
      have g62 := Tryd.isAgg62
      have z62 := Tryd.sizeOf62
      have c96 := Tryd.call96
      have c52 := Tryd.call52
      have mixed : Tryd.prog.follows .mixedOrders = true := by kernel_rfl
      obtain ⟨k24, hk24⟩ : ∃ k, k = 17 := ⟨_, rfl⟩
      rw [← hk24] at z24
      have nk24 : ¬ k24 = 0 := by omega
      have HK24 := Lib.hid hk24
      obtain ⟨k62, hk62⟩ : ∃ k, k = 19 := ⟨_, rfl⟩
      rw [← hk62] at z62
      have nk62 : ¬ k62 = 0 := by omega
      have HK62 := Lib.hid hk62
      have hP : Tryd.prog = PD := rfl
      rw [hP] at t3 u3 g3 z3 t4 u4 g4 z4 t5 u5 g5 z5 t9 u9 g9 z9 t24 u24 g24 z24 t62 u62 g62 z62 c96 c52 mixed v62 ⊢
      have HP := Lib.hid hP.symm
      clear hP hk24 hk62
      have hZk : Z.size = k62 := by rw [HK62.out]; exact hz19
      have hTk : T.size = k62 := by rw [HK62.out]; exact hT19
      have hNk : N.size = k62 := by rw [HK62.out]; exact hN19
      have hZne : ¬ Z = #[] := by intro e; rw [e] at hz19; cases hz19
      clear hz19 hT19 hN19
      go_wp2_with fail
      refine (at_prog HP.out (HC.out _ (HG.out.1.fr (Fr.alloc No _ _)))).mono ?_
      rintro e w3 ⟨rfl, hf3⟩
      obtain ⟨y1, hs1, hb1, hg1⟩ := store_all (P := PD) T.toList (heap_alloc_new w3 (.cells Z 62)) (by rw [Array.length_toList, hTk, hZk]) HT.out.2.1
      have hb1' : y1.heap[w3.heap.size]? = some (.cells T 62 (0, 0)) := by simpa using hb1
      have hlt : w.heap.size < w3.heap.size := Nat.lt_of_lt_of_le (by simp) hf3.size
      have hb0 : y1.heap[w.heap.size]? = some (.cells Z 62 (0, 0)) := by
        have k1 := (Fr.alloc No w3 (.cells Z 62)).keep (hf3.keep (heap_alloc_new w (.cells Z 62)))
        exact (hg1.block _ (Array.getElem?_eq_some_iff.1 k1).1 (by omega)).trans k1
      have HF := Lib.hid ((((Fr.alloc No w (.cells Z 62)).trans hf3).trans (Fr.alloc No w3 (.cells Z 62))).ofNew hg1 fun k hk => .inr (by rw [hk]; omega))
      have hld : Sem.run PD (loadCellsFrom ⟨w3.heap.size, 0, none⟩ 0 k62 #[]) y1 = .ok T y1 := load_block hb1' hTk (fun j v hv => by simpa using hv)
      have HB := Lib.hid hb0
      clear hb1 hb1' hb0 hg1 hf3
      cases ok
      · go_wp2_with fail
        refine (at_prog HP.out (HN.out _)).mono ?_
        rintro e w5 ⟨rfl, hf5⟩
        obtain ⟨y2, hs2, hb2, hg2⟩ := store_all (P := PD) N.toList (hf5.keep HB.out) (by rw [Array.length_toList, hNk, hZk]) HNN.out.1
        have hb3 : y2.heap[w.heap.size]? = some (.cells N 62 (0, 0)) := by simpa using hb2
        have HL := Lib.hid (And.intro hb3 ((HF.out.trans hf5).ofNew hg2 fun k hk => .inr (by omega)))
        clear hb2 hg2 hb3 hf5
        go_wp2_with fail
        refine bodyPost_ret_by (results_agg_tmp rfl _ (b := w.heap.size) (k := 19) (cs := N) (Tryd.isAgg62 _) (Tryd.sizeOf62 _) rfl (load_block HL.out.1 (by rw [← HK62.out]; exact hNk) (fun j v hv => by simpa using hv))) rfl ?_
        exact ⟨by rw [hV1, hV2, ← HNN.out.2]; rfl, HL.out.2⟩
      · obtain ⟨y2, hs2, hb2, hg2⟩ := store_all (P := PD) T.toList HB.out (by rw [Array.length_toList, hTk, hZk]) HT.out.2.1
        have hb3 : y2.heap[w.heap.size]? = some (.cells T 62 (0, 0)) := by simpa using hb2
        have HL := Lib.hid (And.intro hb3 (HF.out.ofNew hg2 fun k hk => .inr (by omega)))
        clear hb2 hg2 hb3
        go_wp2_with fail
        refine bodyPost_ret_by (results_agg_tmp rfl _ (b := w.heap.size) (k := 19) (cs := T) (Tryd.isAgg62 _) (Tryd.sizeOf62 _) rfl (load_block HL.out.1 (by rw [← HK62.out]; exact hTk) (fun j v hv => by simpa using hv))) rfl ?_
        exact ⟨by rw [hV1, hV2, ← HT.out.2.2]; rfl, HL.out.2⟩
    · obtain ⟨a, ha⟩ : ∃ a, l[0]? = some a := ⟨_, List.getElem?_eq_getElem (by omega)⟩
      obtain ⟨z, hz⟩ : ∃ z, l[l.length - 1]? = some z := ⟨_, List.getElem?_eq_getElem (by omega)⟩
      have hx0 : ∀ w, Sem.run Tryd.prog (Instr.index 9 (.string (bs l)) (.int .i64 0)) w = .ok (.int .u8 (a.toNat : Int)) w := fun w => HIX.out 0 a w ha
      have hc : ((l.length - 1 : Nat) : Int) = (l.length : Int) - 1 := by omega
      have hxz := fun w => HIX.out (l.length - 1) z w hz
      rw [hc] at hxz
      have p2 : (2 : Int) ≤ (l.length : Int) := by omega
      have hor : ¬ (a.toNat : Int) = 91 ∨ ((a.toNat : Int) = 91 ∧ ¬ (z.toNat : Int) = 93) := by
        by_cases h1 : (a.toNat : Int) = 91
        · refine .inr ⟨h1, fun h3 => ?_⟩
          have e1 : a = 91 := UInt8.toNat_inj.1 (by show a.toNat = 91; omega)
          have e2 : z = 93 := UInt8.toNat_inj.1 (by show z.toNat = 93; omega)
          have : brk l = true := by
            unfold brk
            rw [decide_eq_true (by omega : 2 ≤ l.length), List.head?_eq_getElem?, ha, List.getLast?_eq_getElem?, hz, e1, e2]
            rfl
          rw [hbr] at this; cases this
        · exact .inl h1
      generalize (a.toNat : Int) = ax at hx0 hor
      generalize (z.toNat : Int) = zx at hxz hor
      generalize l.length = ln at hsz p2 hxz hl
      generalize bs l = s at hsz HC HN hx0 hxz ⊢
      clear HIX hbr h2 hc ha hz
      rcases hor with pa1 | ⟨pa1, pz1⟩
      · have pb : (ax == 91) = false := by simpa using pa1
        go_enter Tryd.func78, Tryd.ntmps78
        have t3 := Tryd.underlying3
        have u3 := Tryd.runUnderlying3
        have g3 := Tryd.isAgg3
        have z3 := Tryd.sizeOf3
        have t4 := Tryd.underlying4
        have u4 := Tryd.runUnderlying4
        have g4 := Tryd.isAgg4
        have z4 := Tryd.sizeOf4
        have t5 := Tryd.underlying5
        have u5 := Tryd.runUnderlying5
        have g5 := Tryd.isAgg5
        have z5 := Tryd.sizeOf5
        have t9 := Tryd.underlying9
        have u9 := Tryd.runUnderlying9
        have g9 := Tryd.isAgg9
        have z9 := Tryd.sizeOf9
        have t24 := Tryd.underlying24
        have u24 := Tryd.runUnderlying24
        have g24 := Tryd.isAgg24
        have z24 := Tryd.sizeOf24
        have t62 := Tryd.underlying62
        have u62 := Tryd.runUnderlying62
        have g62 := Tryd.isAgg62
        have z62 := Tryd.sizeOf62
        have c96 := Tryd.call96
        have c52 := Tryd.call52
        have mixed : Tryd.prog.follows .mixedOrders = true := by kernel_rfl
        obtain ⟨k24, hk24⟩ : ∃ k, k = 17 := ⟨_, rfl⟩
        rw [← hk24] at z24
        have nk24 : ¬ k24 = 0 := by omega
        have HK24 := Lib.hid hk24
        obtain ⟨k62, hk62⟩ : ∃ k, k = 19 := ⟨_, rfl⟩
        rw [← hk62] at z62
        have nk62 : ¬ k62 = 0 := by omega
        have HK62 := Lib.hid hk62
        have hP : Tryd.prog = PD := rfl
        rw [hP] at t3 u3 g3 z3 t4 u4 g4 z4 t5 u5 g5 z5 t9 u9 g9 z9 t24 u24 g24 z24 t62 u62 g62 z62 c96 c52 mixed v62 hx0 hxz ⊢
        have HP := Lib.hid hP.symm
        clear hP hk24 hk62
        have hZk : Z.size = k62 := by rw [HK62.out]; exact hz19
        have hTk : T.size = k62 := by rw [HK62.out]; exact hT19
        have hNk : N.size = k62 := by rw [HK62.out]; exact hN19
        have hZne : ¬ Z = #[] := by intro e; rw [e] at hz19; cases hz19
        clear hz19 hT19 hN19
        go_wp2_with fail
        refine (at_prog HP.out (HC.out _ (HG.out.1.fr (Fr.alloc No _ _)))).mono ?_
        rintro e w3 ⟨rfl, hf3⟩
        obtain ⟨y1, hs1, hb1, hg1⟩ := store_all (P := PD) T.toList (heap_alloc_new w3 (.cells Z 62)) (by rw [Array.length_toList, hTk, hZk]) HT.out.2.1
        have hb1' : y1.heap[w3.heap.size]? = some (.cells T 62 (0, 0)) := by simpa using hb1
        have hlt : w.heap.size < w3.heap.size := Nat.lt_of_lt_of_le (by simp) hf3.size
        have hb0 : y1.heap[w.heap.size]? = some (.cells Z 62 (0, 0)) := by
          have k1 := (Fr.alloc No w3 (.cells Z 62)).keep (hf3.keep (heap_alloc_new w (.cells Z 62)))
          exact (hg1.block _ (Array.getElem?_eq_some_iff.1 k1).1 (by omega)).trans k1
        have HF := Lib.hid ((((Fr.alloc No w (.cells Z 62)).trans hf3).trans (Fr.alloc No w3 (.cells Z 62))).ofNew hg1 fun k hk => .inr (by rw [hk]; omega))
        have hld : Sem.run PD (loadCellsFrom ⟨w3.heap.size, 0, none⟩ 0 k62 #[]) y1 = .ok T y1 := load_block hb1' hTk (fun j v hv => by simpa using hv)
        have HB := Lib.hid hb0
        clear hb1 hb1' hb0 hg1 hf3
        cases ok
        · go_wp2_with fail
          refine (at_prog HP.out (HN.out _)).mono ?_
          rintro e w5 ⟨rfl, hf5⟩
          obtain ⟨y2, hs2, hb2, hg2⟩ := store_all (P := PD) N.toList (hf5.keep HB.out) (by rw [Array.length_toList, hNk, hZk]) HNN.out.1
          have hb3 : y2.heap[w.heap.size]? = some (.cells N 62 (0, 0)) := by simpa using hb2
          have HL := Lib.hid (And.intro hb3 ((HF.out.trans hf5).ofNew hg2 fun k hk => .inr (by omega)))
          clear hb2 hg2 hb3 hf5
          go_wp2_with fail
          refine bodyPost_ret_by (results_agg_tmp rfl _ (b := w.heap.size) (k := 19) (cs := N) (Tryd.isAgg62 _) (Tryd.sizeOf62 _) rfl (load_block HL.out.1 (by rw [← HK62.out]; exact hNk) (fun j v hv => by simpa using hv))) rfl ?_
          exact ⟨by rw [hV1, hV2, ← HNN.out.2]; rfl, HL.out.2⟩
        · obtain ⟨y2, hs2, hb2, hg2⟩ := store_all (P := PD) T.toList HB.out (by rw [Array.length_toList, hTk, hZk]) HT.out.2.1
          have hb3 : y2.heap[w.heap.size]? = some (.cells T 62 (0, 0)) := by simpa using hb2
          have HL := Lib.hid (And.intro hb3 (HF.out.ofNew hg2 fun k hk => .inr (by omega)))
          clear hb2 hg2 hb3
          go_wp2_with fail
          refine bodyPost_ret_by (results_agg_tmp rfl _ (b := w.heap.size) (k := 19) (cs := T) (Tryd.isAgg62 _) (Tryd.sizeOf62 _) rfl (load_block HL.out.1 (by rw [← HK62.out]; exact hTk) (fun j v hv => by simpa using hv))) rfl ?_
          exact ⟨by rw [hV1, hV2, ← HT.out.2.2]; rfl, HL.out.2⟩
      · subst pa1
        have pb : (zx == 93) = false := by simpa using pz1
        go_enter Tryd.func78, Tryd.ntmps78
        have t3 := Tryd.underlying3
        have u3 := Tryd.runUnderlying3
        have g3 := Tryd.isAgg3
        have z3 := Tryd.sizeOf3
        have t4 := Tryd.underlying4
        have u4 := Tryd.runUnderlying4
        have g4 := Tryd.isAgg4
        have z4 := Tryd.sizeOf4
        have t5 := Tryd.underlying5
        have u5 := Tryd.runUnderlying5
        have g5 := Tryd.isAgg5
        have z5 := Tryd.sizeOf5
        have t9 := Tryd.underlying9
        have u9 := Tryd.runUnderlying9
        have g9 := Tryd.isAgg9
        have z9 := Tryd.sizeOf9
        have t24 := Tryd.underlying24
        have u24 := Tryd.runUnderlying24
        have g24 := Tryd.isAgg24
        have z24 := Tryd.sizeOf24
        have t62 := Tryd.underlying62
        have u62 := Tryd.runUnderlying62
        have g62 := Tryd.isAgg62
        have z62 := Tryd.sizeOf62
        have c96 := Tryd.call96
        have c52 := Tryd.call52
        have mixed : Tryd.prog.follows .mixedOrders = true := by kernel_rfl
        obtain ⟨k24, hk24⟩ : ∃ k, k = 17 := ⟨_, rfl⟩
        rw [← hk24] at z24
        have nk24 : ¬ k24 = 0 := by omega
        have HK24 := Lib.hid hk24
        obtain ⟨k62, hk62⟩ : ∃ k, k = 19 := ⟨_, rfl⟩
        rw [← hk62] at z62
        have nk62 : ¬ k62 = 0 := by omega
        have HK62 := Lib.hid hk62
        have hP : Tryd.prog = PD := rfl
        rw [hP] at t3 u3 g3 z3 t4 u4 g4 z4 t5 u5 g5 z5 t9 u9 g9 z9 t24 u24 g24 z24 t62 u62 g62 z62 c96 c52 mixed v62 hx0 hxz ⊢
        have HP := Lib.hid hP.symm
        clear hP hk24 hk62
        have hZk : Z.size = k62 := by rw [HK62.out]; exact hz19
        have hTk : T.size = k62 := by rw [HK62.out]; exact hT19
        have hNk : N.size = k62 := by rw [HK62.out]; exact hN19
        have hZne : ¬ Z = #[] := by intro e; rw [e] at hz19; cases hz19
        clear hz19 hT19 hN19
        go_wp2_with fail
        refine (at_prog HP.out (HC.out _ (HG.out.1.fr (Fr.alloc No _ _)))).mono ?_
        rintro e w3 ⟨rfl, hf3⟩
        obtain ⟨y1, hs1, hb1, hg1⟩ := store_all (P := PD) T.toList (heap_alloc_new w3 (.cells Z 62)) (by rw [Array.length_toList, hTk, hZk]) HT.out.2.1
        have hb1' : y1.heap[w3.heap.size]? = some (.cells T 62 (0, 0)) := by simpa using hb1
        have hlt : w.heap.size < w3.heap.size := Nat.lt_of_lt_of_le (by simp) hf3.size
        have hb0 : y1.heap[w.heap.size]? = some (.cells Z 62 (0, 0)) := by
          have k1 := (Fr.alloc No w3 (.cells Z 62)).keep (hf3.keep (heap_alloc_new w (.cells Z 62)))
          exact (hg1.block _ (Array.getElem?_eq_some_iff.1 k1).1 (by omega)).trans k1
        have HF := Lib.hid ((((Fr.alloc No w (.cells Z 62)).trans hf3).trans (Fr.alloc No w3 (.cells Z 62))).ofNew hg1 fun k hk => .inr (by rw [hk]; omega))
        have hld : Sem.run PD (loadCellsFrom ⟨w3.heap.size, 0, none⟩ 0 k62 #[]) y1 = .ok T y1 := load_block hb1' hTk (fun j v hv => by simpa using hv)
        have HB := Lib.hid hb0
        clear hb1 hb1' hb0 hg1 hf3
        cases ok
        · go_wp2_with fail
          refine (at_prog HP.out (HN.out _)).mono ?_
          rintro e w5 ⟨rfl, hf5⟩
          obtain ⟨y2, hs2, hb2, hg2⟩ := store_all (P := PD) N.toList (hf5.keep HB.out) (by rw [Array.length_toList, hNk, hZk]) HNN.out.1
          have hb3 : y2.heap[w.heap.size]? = some (.cells N 62 (0, 0)) := by simpa using hb2
          have HL := Lib.hid (And.intro hb3 ((HF.out.trans hf5).ofNew hg2 fun k hk => .inr (by omega)))
          clear hb2 hg2 hb3 hf5
          go_wp2_with fail
          refine bodyPost_ret_by (results_agg_tmp rfl _ (b := w.heap.size) (k := 19) (cs := N) (Tryd.isAgg62 _) (Tryd.sizeOf62 _) rfl (load_block HL.out.1 (by rw [← HK62.out]; exact hNk) (fun j v hv => by simpa using hv))) rfl ?_
          exact ⟨by rw [hV1, hV2, ← HNN.out.2]; rfl, HL.out.2⟩
        · obtain ⟨y2, hs2, hb2, hg2⟩ := store_all (P := PD) T.toList HB.out (by rw [Array.length_toList, hTk, hZk]) HT.out.2.1
          have hb3 : y2.heap[w.heap.size]? = some (.cells T 62 (0, 0)) := by simpa using hb2
          have HL := Lib.hid (And.intro hb3 (HF.out.ofNew hg2 fun k hk => .inr (by omega)))
          clear hb2 hg2 hb3
          go_wp2_with fail
          refine bodyPost_ret_by (results_agg_tmp rfl _ (b := w.heap.size) (k := 19) (cs := T) (Tryd.isAgg62 _) (Tryd.sizeOf62 _) rfl (load_block HL.out.1 (by rw [← HK62.out]; exact hTk) (fun j v hv => by simpa using hv))) rfl ?_
          exact ⟨by rw [hV1, hV2, ← HT.out.2.2]; rfl, HL.out.2⟩
end Go.Proofs.YtdnfmilihfkhmaaDoor
