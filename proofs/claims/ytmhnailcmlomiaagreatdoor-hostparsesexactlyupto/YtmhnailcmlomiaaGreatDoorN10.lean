/-
  CONTRACT of package host's parseHost, over this seat's translation: what the call returns.
  Conditions: the string is shorter than 2 to the 31; the package variables are as Glob says.
  CONTRACT of package host's ParseTarget, over this seat's translation: what the call returns.
  Conditions: the string is shorter than 2 to the 31; the package variables are as Glob says.
-/
import Derived.Test.YtmhnailcmlomiaaGreatDoorN8
import Derived.Test.YtmhnailcmlomiaaGreatDoorN7
namespace Go.Proofs.YtmhnailcmlomiaaGreatDoor
open Go.ChangeShapes Go.WideShapes Go.ChangeAt Go.RowKit
set_option linter.unusedVariables false

/-- Whether these bytes stand in brackets. -/
def brk (l : List UInt8) : Bool := decide (2 ≤ l.length) && decide (l.head? = some 91) && decide (l.getLast? = some 93)
/-- What stands between the first byte and the last. -/
def mid (l : List UInt8) : List UInt8 := (l.drop 1).take (l.length - 2)
/-- What a name, where there is one, is as a string. -/
def nmS : Option (List UInt8) → ByteArray
  | some n => bs n
  | none => ⟨#[]⟩
/-- The target without a port that these bytes are written for, and whether there is one. -/
def phT (l : List UInt8) : List Value := if brk l then paT (mid l) true else if pa l false then paT l false else tgt (nmS (nameP l)) false zeros 0
def phB (l : List UInt8) : Bool := if brk l then pa (mid l) true else if pa l false then true else (nameP l).isSome
theorem ansN_eq (o : Option (List UInt8)) : ansN o = .tuple #[.string (nmS o), .bool o.isSome] := by cases o <;> rfl
theorem paT_tgt (l : List UInt8) (v6 : Bool) : ∃ b xs, paT l v6 = tgt ⟨#[]⟩ b xs 0 ∧ Bytes xs := by
  by_cases h : pa l v6 = true
  · exact ⟨_, _, by rw [paT, if_pos h], resX_bytes l⟩
  · exact ⟨false, zeros, by rw [paT, if_neg h]; rfl, zeros_bytes⟩
theorem phT_tgt (l : List UInt8) : ∃ n b xs, phT l = tgt n b xs 0 ∧ Bytes xs := by
  unfold phT
  split
  · obtain ⟨b, xs, h, k⟩ := paT_tgt (mid l) true; exact ⟨_, b, xs, h, k⟩
  · split
    · obtain ⟨b, xs, h, k⟩ := paT_tgt l false; exact ⟨_, b, xs, h, k⟩
    · exact ⟨_, false, zeros, rfl, zeros_bytes⟩
theorem paT_len (l : List UInt8) (v6 : Bool) : (paT l v6).toArray.size = 19 ∧ ∀ u ∈ (paT l v6).toArray.toList, u.oneCell' = true := by
  obtain ⟨b, xs, h, k⟩ := paT_tgt l v6
  rw [h]
  exact ⟨by rw [List.size_toArray]; exact tgt_length _ _ _ _ k.1, by intro u hu; exact tgt_one _ _ _ _ u (by simpa using hu)⟩

set_option maxHeartbeats 8000000 in
set_option maxRecDepth 100000 in
theorem phost_any (l : List UInt8) (w : World) (hG : Glob w) (hl : l.length < 2147483648) :
    Calls Tryz.prog 54 #[.string (bs l)] w fun e w' => e = .returned (.tuple #[.agg (phT l).toArray, .bool (phB l)]) ∧ Fr No w w' := by
  obtain ⟨Z, hZ⟩ : ∃ Z : Array Value, noT.toArray = Z := ⟨_, rfl⟩
  have v62 := zero32
  rw [hZ] at v62
  have hz19 : Z.size = 19 := by rw [← hZ]; rfl
  have hsz : (bs l).size = l.length := rfl
  have HIX : Hid (∀ (i : Nat) (x : UInt8) (w : World), l[i]? = some x → Sem.run Tryz.prog (Instr.index 9 (.string (bs l)) (.int .i64 i)) w = .ok (.int .u8 (x.toNat : Int)) w) := fun i x w h => bs_index h w
  have HG := Lib.hid (And.intro hG hl)
  clear hG
  cases hbr : brk l with
  | true =>
    have hbr' := hbr
    unfold brk at hbr'
    simp only [Bool.and_eq_true, decide_eq_true_eq] at hbr'
    obtain ⟨⟨h2, h91⟩, h93⟩ := hbr'
    obtain ⟨k, hk⟩ : ∃ k, l.length = k + 2 := ⟨l.length - 2, by omega⟩
    have hx0 : ∀ w, Sem.run Tryz.prog (Instr.index 9 (.string (bs l)) (.int .i64 0)) w = .ok (.int .u8 91) w := fun w => HIX.out 0 91 w (by rw [← List.head?_eq_getElem?]; exact h91)
    have hxz : ∀ w, Sem.run Tryz.prog (Instr.index 9 (.string (bs l)) (.int .i64 ((k : Int) + 1))) w = .ok (.int .u8 93) w := fun w => HIX.out (k + 1) 93 w (by rw [List.getLast?_eq_getElem?, hk] at h93; exact h93)
    have hex : (bs l).extract 1 (k + 1) = bs (mid l) := by rw [bs_extract, mid, hk]; rfl
    have hk31 : k < 2147483648 := by omega
    have HV : Hid (phT l = paT (mid l) true ∧ phB l = pa (mid l) true) := ⟨by rw [phT, if_pos hbr], by rw [phB, if_pos hbr]⟩
    have HC : Hid (∀ w, Glob w → Calls Tryz.prog 83 #[.string (bs (mid l)), .bool true] w fun e w' => e = .returned (.tuple #[.agg (paT (mid l) true).toArray, .bool (pa (mid l) true)]) ∧ Fr No w w') := fun w h => paddr_any (mid l) true w h (by rw [mid, List.length_take, List.length_drop]; omega)
    obtain ⟨T, hT⟩ : ∃ T, (paT (mid l) true).toArray = T := ⟨_, rfl⟩
    have hTl := paT_len (mid l) true
    rw [hT] at HC hTl
    have HT := Lib.hid (And.intro hTl.1 (And.intro hTl.2 hT))
    clear hTl
    have hT19 := HT.out.1
    generalize pa (mid l) true = ok at HC HV
    generalize bs (mid l) = sm at HC hex
    rw [hk] at hsz
    generalize bs l = s at hsz HIX hx0 hxz hex ⊢
    clear HIX hT hbr h2 h91 h93 hl hZ
    have c1 : ((k : Int) + 1 + 1) - 1 = (k : Int) + 1 := by omega
    have c2 : ((k : Int) + 2) - 1 = (k : Int) + 1 := by omega
    have c3 : ((k : Int) + 1).toNat = k + 1 := by omega
    have q1 : (1 : Int) ≤ (k : Int) + 1 := by omega
    have q2 : (k : Int) + 1 ≤ (k : Int) + 2 := by omega
    have q3 : (0 : Int) ≤ (k : Int) + 1 := by omega
    go_enter Tryz.func54, Tryz.ntmps54
    have t3 := Tryz.underlying3
    have u3 := Tryz.runUnderlying3
    have g3 := Tryz.isAgg3
    have z3 := Tryz.sizeOf3
    have t4 := Tryz.underlying4
    have u4 := Tryz.runUnderlying4
    have g4 := Tryz.isAgg4
    have z4 := Tryz.sizeOf4
    have t5 := Tryz.underlying5
    have u5 := Tryz.runUnderlying5
    have g5 := Tryz.isAgg5
    have z5 := Tryz.sizeOf5
    have t9 := Tryz.underlying9
    have u9 := Tryz.runUnderlying9
    have g9 := Tryz.isAgg9
    have z9 := Tryz.sizeOf9
    have t32 := Tryz.underlying32
    have u32 := Tryz.runUnderlying32
    have g32 := Tryz.isAgg32
    have z32 := Tryz.sizeOf32
    have c83 := Tryz.call83
    have c36 := Tryz.call36
    have mixed : Tryz.prog.follows .mixedOrders = true := by kernel_rfl
    obtain ⟨k62, hk62⟩ : ∃ k, k = 19 := ⟨_, rfl⟩
    rw [← hk62] at z32
    have nk62 : ¬ k62 = 0 := by omega
    have HK32 := Lib.hid hk62
    have hP : Tryz.prog = PD := rfl
    rw [hP] at t3 u3 g3 z3 t4 u4 g4 z4 t5 u5 g5 z5 t9 u9 g9 z9 t32 u32 g32 z32 c83 c36 mixed v62 hx0 hxz ⊢
    have HP := Lib.hid hP.symm
    clear hP hk62
    have hZk : Z.size = k62 := by rw [HK32.out]; exact hz19
    have hTk : T.size = k62 := by rw [HK32.out]; exact hT19
    clear hz19 hT19
    go_wp2_with fail
    refine (at_prog HP.out (HC.out _ (HG.out.1.fr (Fr.alloc No _ _)))).mono ?_
    rintro e w3 ⟨rfl, hf3⟩
    have hb0 := hf3.keep (heap_alloc_new w (.cells Z 32))
    obtain ⟨y2, hs2, hb2, hg2⟩ := store_all (P := PD) T.toList hb0 (by rw [Array.length_toList, hTk, hZk]) HT.out.2.1
    have hb3 : y2.heap[w.heap.size]? = some (.cells T 32 (0, 0)) := by simpa using hb2
    have HL := Lib.hid (And.intro hb3 (((Fr.alloc No w (.cells Z 32)).trans hf3).ofNew hg2 fun k hk => .inr (by omega)))
    clear hb2 hg2 hb3 hb0 hf3
    go_wp2_with fail
    refine bodyPost_ret_by (results_agg_tmp rfl _ (b := w.heap.size) (k := 19) (cs := T) (Tryz.isAgg32 _) (Tryz.sizeOf32 _) rfl (load_block HL.out.1 (by rw [← HK32.out]; exact hTk) (fun j v hv => by simpa using hv))) rfl ?_
    exact ⟨by rw [HV.out.1, HV.out.2, HT.out.2.2]; rfl, HL.out.2⟩
  | false =>
    have hV1 : phT l = if pa l false then paT l false else tgt (nmS (nameP l)) false zeros 0 := by rw [phT, if_neg (by rw [hbr]; simp)]
    have hV2 : phB l = if pa l false then true else (nameP l).isSome := by rw [phB, if_neg (by rw [hbr]; simp)]
    have HC : Hid (∀ w, Glob w → Calls Tryz.prog 83 #[.string (bs l), .bool false] w fun e w' => e = .returned (.tuple #[.agg (paT l false).toArray, .bool (pa l false)]) ∧ Fr No w w') := fun w h => paddr_any l false w h HG.out.2
    have HN : Hid (∀ w, Calls Tryz.prog 36 #[.string (bs l)] w fun e w' => e = .returned (.tuple #[.string (nmS (nameP l)), .bool (nameP l).isSome]) ∧ Fr No w w') := fun w => by rw [← ansN_eq]; exact pname_any l HG.out.2 w
    obtain ⟨T, hT⟩ : ∃ T, (paT l false).toArray = T := ⟨_, rfl⟩
    obtain ⟨N, hN⟩ : ∃ N, (tgt (nmS (nameP l)) false zeros 0).toArray = N := ⟨_, rfl⟩
    have hTl := paT_len l false
    have hN1 : N.size = 19 ∧ ∀ u ∈ N.toList, u.oneCell' = true := by rw [← hN]; exact ⟨rfl, by intro u hu; exact tgt_one _ _ _ _ u (by simpa using hu)⟩
    have hput : Z.setIfInBounds 0 (.string (nmS (nameP l))) = N := by rw [← hN, ← hZ]; rfl
    have HNN := Lib.hid (And.intro hN1.2 hN)
    rw [hT] at HC hTl
    have HT := Lib.hid (And.intro hTl.1 (And.intro hTl.2 hT))
    clear hTl
    have hT19 := HT.out.1
    have hN19 := hN1.1
    generalize (nameP l).isSome = nb at HN hV2
    generalize nmS (nameP l) = sn at HN hV1 hput HNN
    generalize pa l false = ok at HC hV1 hV2
    clear hT hN hN1 hZ
    by_cases h2 : l.length < 2
    · have p2 : ¬ (2 : Int) ≤ (l.length : Int) := by omega
      generalize l.length = ln at hsz p2
      generalize bs l = s at hsz HC HN ⊢
      clear HIX hbr hl h2
      go_enter Tryz.func54, Tryz.ntmps54
      have t3 := Tryz.underlying3
      have u3 := Tryz.runUnderlying3
      have g3 := Tryz.isAgg3
      have z3 := Tryz.sizeOf3
      have t4 := Tryz.underlying4
      have u4 := Tryz.runUnderlying4
      have g4 := Tryz.isAgg4
      have z4 := Tryz.sizeOf4
      have t5 := Tryz.underlying5
      have u5 := Tryz.runUnderlying5
      have g5 := Tryz.isAgg5
      have z5 := Tryz.sizeOf5
      have t9 := Tryz.underlying9
      have u9 := Tryz.runUnderlying9
      have g9 := Tryz.isAgg9
      have z9 := Tryz.sizeOf9
      have t30 := Tryz.underlying30
      have u30 := Tryz.runUnderlying30
      have g30 := Tryz.isAgg30
      have z30 := Tryz.sizeOf30
      have t32 := Tryz.underlying32
      have u32 := Tryz.runUnderlying32
      have g32 := Tryz.isAgg32
      have z32 := Tryz.sizeOf32
      have c83 := Tryz.call83
      have c36 := Tryz.call36
      have mixed : Tryz.prog.follows .mixedOrders = true := by kernel_rfl
      obtain ⟨k24, hk24⟩ : ∃ k, k = 17 := ⟨_, rfl⟩
      rw [← hk24] at z30
      have nk24 : ¬ k24 = 0 := by omega
      have HK30 := Lib.hid hk24
      obtain ⟨k62, hk62⟩ : ∃ k, k = 19 := ⟨_, rfl⟩
      rw [← hk62] at z32
      have nk62 : ¬ k62 = 0 := by omega
      have HK32 := Lib.hid hk62
      have hP : Tryz.prog = PD := rfl
      rw [hP] at t3 u3 g3 z3 t4 u4 g4 z4 t5 u5 g5 z5 t9 u9 g9 z9 t30 u30 g30 z30 t32 u32 g32 z32 c83 c36 mixed v62 ⊢
      have HP := Lib.hid hP.symm
      clear hP hk24 hk62
      have hZk : Z.size = k62 := by rw [HK32.out]; exact hz19
      have hTk : T.size = k62 := by rw [HK32.out]; exact hT19
      have hNk : N.size = k62 := by rw [HK32.out]; exact hN19
      have hZne : ¬ Z = #[] := by intro e; rw [e] at hz19; cases hz19
      clear hz19 hT19 hN19
      go_wp2_with fail
      refine (at_prog HP.out (HC.out _ (HG.out.1.fr (Fr.alloc No _ _)))).mono ?_
      rintro e w3 ⟨rfl, hf3⟩
      obtain ⟨y1, hs1, hb1, hg1⟩ := store_all (P := PD) T.toList (heap_alloc_new w3 (.cells Z 32)) (by rw [Array.length_toList, hTk, hZk]) HT.out.2.1
      have hb1' : y1.heap[w3.heap.size]? = some (.cells T 32 (0, 0)) := by simpa using hb1
      have hlt : w.heap.size < w3.heap.size := Nat.lt_of_lt_of_le (by simp) hf3.size
      have hb0 : y1.heap[w.heap.size]? = some (.cells Z 32 (0, 0)) := by
        have k1 := (Fr.alloc No w3 (.cells Z 32)).keep (hf3.keep (heap_alloc_new w (.cells Z 32)))
        exact (hg1.block _ (Array.getElem?_eq_some_iff.1 k1).1 (by omega)).trans k1
      have HF := Lib.hid ((((Fr.alloc No w (.cells Z 32)).trans hf3).trans (Fr.alloc No w3 (.cells Z 32))).ofNew hg1 fun k hk => .inr (by rw [hk]; omega))
      have hld : Sem.run PD (loadCellsFrom ⟨w3.heap.size, 0, none⟩ 0 k62 #[]) y1 = .ok T y1 := load_block hb1' hTk (fun j v hv => by simpa using hv)
      have HB := Lib.hid hb0
      clear hb1 hb1' hb0 hg1 hf3
      cases ok
      · go_wp2_with fail
        refine (at_prog HP.out (HN.out _)).mono ?_
        rintro e w5 ⟨rfl, hf5⟩
        obtain ⟨y2, hs2, hb2, hg2⟩ := store_all (P := PD) N.toList (hf5.keep HB.out) (by rw [Array.length_toList, hNk, hZk]) HNN.out.1
        have hb3 : y2.heap[w.heap.size]? = some (.cells N 32 (0, 0)) := by simpa using hb2
        have HL := Lib.hid (And.intro hb3 ((HF.out.trans hf5).ofNew hg2 fun k hk => .inr (by omega)))
        clear hb2 hg2 hb3 hf5
        go_wp2_with fail
        refine bodyPost_ret_by (results_agg_tmp rfl _ (b := w.heap.size) (k := 19) (cs := N) (Tryz.isAgg32 _) (Tryz.sizeOf32 _) rfl (load_block HL.out.1 (by rw [← HK32.out]; exact hNk) (fun j v hv => by simpa using hv))) rfl ?_
        exact ⟨by rw [hV1, hV2, ← HNN.out.2]; rfl, HL.out.2⟩
      · obtain ⟨y2, hs2, hb2, hg2⟩ := store_all (P := PD) T.toList HB.out (by rw [Array.length_toList, hTk, hZk]) HT.out.2.1
        have hb3 : y2.heap[w.heap.size]? = some (.cells T 32 (0, 0)) := by simpa using hb2
        have HL := Lib.hid (And.intro hb3 (HF.out.ofNew hg2 fun k hk => .inr (by omega)))
        clear hb2 hg2 hb3
        go_wp2_with fail
        refine bodyPost_ret_by (results_agg_tmp rfl _ (b := w.heap.size) (k := 19) (cs := T) (Tryz.isAgg32 _) (Tryz.sizeOf32 _) rfl (load_block HL.out.1 (by rw [← HK32.out]; exact hTk) (fun j v hv => by simpa using hv))) rfl ?_
        exact ⟨by rw [hV1, hV2, ← HT.out.2.2]; rfl, HL.out.2⟩
    · obtain ⟨a, ha⟩ : ∃ a, l[0]? = some a := ⟨_, List.getElem?_eq_getElem (by omega)⟩
      obtain ⟨z, hz⟩ : ∃ z, l[l.length - 1]? = some z := ⟨_, List.getElem?_eq_getElem (by omega)⟩
      have hx0 : ∀ w, Sem.run Tryz.prog (Instr.index 9 (.string (bs l)) (.int .i64 0)) w = .ok (.int .u8 (a.toNat : Int)) w := fun w => HIX.out 0 a w ha
      have hc : ((l.length - 1 : Nat) : Int) = (l.length : Int) - 1 := by omega
      have hxz := fun w => HIX.out (l.length - 1) z w hz
      rw [hc] at hxz
      have p2 : (2 : Int) ≤ (l.length : Int) := by omega
      have hor : ¬ (a.toNat : Int) = 91 ∨ ((a.toNat : Int) = 91 ∧ ¬ (z.toNat : Int) = 93) := by
        by_cases h1 : (a.toNat : Int) = 91
        · refine .inr ⟨h1, fun h3 => ?_⟩
          have e1 : a = 91 := UInt8.toNat_inj.1 (by show a.toNat = 91; omega)
          have e2 : z = 93 := UInt8.toNat_inj.1 (by show z.toNat = 93; omega)
          have : brk l = true := by
            unfold brk
            rw [decide_eq_true (by omega : 2 ≤ l.length), List.head?_eq_getElem?, ha, List.getLast?_eq_getElem?, hz, e1, e2]
            rfl
          rw [hbr] at this; cases this
        · exact .inl h1
      generalize (a.toNat : Int) = ax at hx0 hor
      generalize (z.toNat : Int) = zx at hxz hor
      generalize l.length = ln at hsz p2 hxz hl
      generalize bs l = s at hsz HC HN hx0 hxz ⊢
      clear HIX hbr h2 hc ha hz
      rcases hor with pa1 | ⟨pa1, pz1⟩
      · have pb : (ax == 91) = false := by simpa using pa1
        go_enter Tryz.func54, Tryz.ntmps54
        have t3 := Tryz.underlying3
        have u3 := Tryz.runUnderlying3
        have g3 := Tryz.isAgg3
        have z3 := Tryz.sizeOf3
        have t4 := Tryz.underlying4
        have u4 := Tryz.runUnderlying4
        have g4 := Tryz.isAgg4
        have z4 := Tryz.sizeOf4
        have t5 := Tryz.underlying5
        have u5 := Tryz.runUnderlying5
        have g5 := Tryz.isAgg5
        have z5 := Tryz.sizeOf5
        have t9 := Tryz.underlying9
        have u9 := Tryz.runUnderlying9
        have g9 := Tryz.isAgg9
        have z9 := Tryz.sizeOf9
        have t30 := Tryz.underlying30
        have u30 := Tryz.runUnderlying30
        have g30 := Tryz.isAgg30
        have z30 := Tryz.sizeOf30
        have t32 := Tryz.underlying32
        have u32 := Tryz.runUnderlying32
        have g32 := Tryz.isAgg32
        have z32 := Tryz.sizeOf32
        have c83 := Tryz.call83
        have c36 := Tryz.call36
        have mixed : Tryz.prog.follows .mixedOrders = true := by kernel_rfl
        obtain ⟨k24, hk24⟩ : ∃ k, k = 17 := ⟨_, rfl⟩
        rw [← hk24] at z30
        have nk24 : ¬ k24 = 0 := by omega
        have HK30 := Lib.hid hk24
        obtain ⟨k62, hk62⟩ : ∃ k, k = 19 := ⟨_, rfl⟩
        rw [← hk62] at z32
        have nk62 : ¬ k62 = 0 := by omega
        have HK32 := Lib.hid hk62
        have hP : Tryz.prog = PD := rfl
        rw [hP] at t3 u3 g3 z3 t4 u4 g4 z4 t5 u5 g5 z5 t9 u9 g9 z9 t30 u30 g30 z30 t32 u32 g32 z32 c83 c36 mixed v62 hx0 hxz ⊢
        have HP := Lib.hid hP.symm
        clear hP hk24 hk62
        have hZk : Z.size = k62 := by rw [HK32.out]; exact hz19
        have hTk : T.size = k62 := by rw [HK32.out]; exact hT19
        have hNk : N.size = k62 := by rw [HK32.out]; exact hN19
        have hZne : ¬ Z = #[] := by intro e; rw [e] at hz19; cases hz19
        clear hz19 hT19 hN19
        go_wp2_with fail
        refine (at_prog HP.out (HC.out _ (HG.out.1.fr (Fr.alloc No _ _)))).mono ?_
        rintro e w3 ⟨rfl, hf3⟩
        obtain ⟨y1, hs1, hb1, hg1⟩ := store_all (P := PD) T.toList (heap_alloc_new w3 (.cells Z 32)) (by rw [Array.length_toList, hTk, hZk]) HT.out.2.1
        have hb1' : y1.heap[w3.heap.size]? = some (.cells T 32 (0, 0)) := by simpa using hb1
        have hlt : w.heap.size < w3.heap.size := Nat.lt_of_lt_of_le (by simp) hf3.size
        have hb0 : y1.heap[w.heap.size]? = some (.cells Z 32 (0, 0)) := by
          have k1 := (Fr.alloc No w3 (.cells Z 32)).keep (hf3.keep (heap_alloc_new w (.cells Z 32)))
          exact (hg1.block _ (Array.getElem?_eq_some_iff.1 k1).1 (by omega)).trans k1
        have HF := Lib.hid ((((Fr.alloc No w (.cells Z 32)).trans hf3).trans (Fr.alloc No w3 (.cells Z 32))).ofNew hg1 fun k hk => .inr (by rw [hk]; omega))
        have hld : Sem.run PD (loadCellsFrom ⟨w3.heap.size, 0, none⟩ 0 k62 #[]) y1 = .ok T y1 := load_block hb1' hTk (fun j v hv => by simpa using hv)
        have HB := Lib.hid hb0
        clear hb1 hb1' hb0 hg1 hf3
        cases ok
        · go_wp2_with fail
          refine (at_prog HP.out (HN.out _)).mono ?_
          rintro e w5 ⟨rfl, hf5⟩
          obtain ⟨y2, hs2, hb2, hg2⟩ := store_all (P := PD) N.toList (hf5.keep HB.out) (by rw [Array.length_toList, hNk, hZk]) HNN.out.1
          have hb3 : y2.heap[w.heap.size]? = some (.cells N 32 (0, 0)) := by simpa using hb2
          have HL := Lib.hid (And.intro hb3 ((HF.out.trans hf5).ofNew hg2 fun k hk => .inr (by omega)))
          clear hb2 hg2 hb3 hf5
          go_wp2_with fail
          refine bodyPost_ret_by (results_agg_tmp rfl _ (b := w.heap.size) (k := 19) (cs := N) (Tryz.isAgg32 _) (Tryz.sizeOf32 _) rfl (load_block HL.out.1 (by rw [← HK32.out]; exact hNk) (fun j v hv => by simpa using hv))) rfl ?_
          exact ⟨by rw [hV1, hV2, ← HNN.out.2]; rfl, HL.out.2⟩
        · obtain ⟨y2, hs2, hb2, hg2⟩ := store_all (P := PD) T.toList HB.out (by rw [Array.length_toList, hTk, hZk]) HT.out.2.1
          have hb3 : y2.heap[w.heap.size]? = some (.cells T 32 (0, 0)) := by simpa using hb2
          have HL := Lib.hid (And.intro hb3 (HF.out.ofNew hg2 fun k hk => .inr (by omega)))
          clear hb2 hg2 hb3
          go_wp2_with fail
          refine bodyPost_ret_by (results_agg_tmp rfl _ (b := w.heap.size) (k := 19) (cs := T) (Tryz.isAgg32 _) (Tryz.sizeOf32 _) rfl (load_block HL.out.1 (by rw [← HK32.out]; exact hTk) (fun j v hv => by simpa using hv))) rfl ?_
          exact ⟨by rw [hV1, hV2, ← HT.out.2.2]; rfl, HL.out.2⟩
      · subst pa1
        have pb : (zx == 93) = false := by simpa using pz1
        go_enter Tryz.func54, Tryz.ntmps54
        have t3 := Tryz.underlying3
        have u3 := Tryz.runUnderlying3
        have g3 := Tryz.isAgg3
        have z3 := Tryz.sizeOf3
        have t4 := Tryz.underlying4
        have u4 := Tryz.runUnderlying4
        have g4 := Tryz.isAgg4
        have z4 := Tryz.sizeOf4
        have t5 := Tryz.underlying5
        have u5 := Tryz.runUnderlying5
        have g5 := Tryz.isAgg5
        have z5 := Tryz.sizeOf5
        have t9 := Tryz.underlying9
        have u9 := Tryz.runUnderlying9
        have g9 := Tryz.isAgg9
        have z9 := Tryz.sizeOf9
        have t30 := Tryz.underlying30
        have u30 := Tryz.runUnderlying30
        have g30 := Tryz.isAgg30
        have z30 := Tryz.sizeOf30
        have t32 := Tryz.underlying32
        have u32 := Tryz.runUnderlying32
        have g32 := Tryz.isAgg32
        have z32 := Tryz.sizeOf32
        have c83 := Tryz.call83
        have c36 := Tryz.call36
        have mixed : Tryz.prog.follows .mixedOrders = true := by kernel_rfl
        obtain ⟨k24, hk24⟩ : ∃ k, k = 17 := ⟨_, rfl⟩
        rw [← hk24] at z30
        have nk24 : ¬ k24 = 0 := by omega
        have HK30 := Lib.hid hk24
        obtain ⟨k62, hk62⟩ : ∃ k, k = 19 := ⟨_, rfl⟩
        rw [← hk62] at z32
        have nk62 : ¬ k62 = 0 := by omega
        have HK32 := Lib.hid hk62
        have hP : Tryz.prog = PD := rfl
        rw [hP] at t3 u3 g3 z3 t4 u4 g4 z4 t5 u5 g5 z5 t9 u9 g9 z9 t30 u30 g30 z30 t32 u32 g32 z32 c83 c36 mixed v62 hx0 hxz ⊢
        have HP := Lib.hid hP.symm
        clear hP hk24 hk62
        have hZk : Z.size = k62 := by rw [HK32.out]; exact hz19
        have hTk : T.size = k62 := by rw [HK32.out]; exact hT19
        have hNk : N.size = k62 := by rw [HK32.out]; exact hN19
        have hZne : ¬ Z = #[] := by intro e; rw [e] at hz19; cases hz19
        clear hz19 hT19 hN19
        go_wp2_with fail
        refine (at_prog HP.out (HC.out _ (HG.out.1.fr (Fr.alloc No _ _)))).mono ?_
        rintro e w3 ⟨rfl, hf3⟩
        obtain ⟨y1, hs1, hb1, hg1⟩ := store_all (P := PD) T.toList (heap_alloc_new w3 (.cells Z 32)) (by rw [Array.length_toList, hTk, hZk]) HT.out.2.1
        have hb1' : y1.heap[w3.heap.size]? = some (.cells T 32 (0, 0)) := by simpa using hb1
        have hlt : w.heap.size < w3.heap.size := Nat.lt_of_lt_of_le (by simp) hf3.size
        have hb0 : y1.heap[w.heap.size]? = some (.cells Z 32 (0, 0)) := by
          have k1 := (Fr.alloc No w3 (.cells Z 32)).keep (hf3.keep (heap_alloc_new w (.cells Z 32)))
          exact (hg1.block _ (Array.getElem?_eq_some_iff.1 k1).1 (by omega)).trans k1
        have HF := Lib.hid ((((Fr.alloc No w (.cells Z 32)).trans hf3).trans (Fr.alloc No w3 (.cells Z 32))).ofNew hg1 fun k hk => .inr (by rw [hk]; omega))
        have hld : Sem.run PD (loadCellsFrom ⟨w3.heap.size, 0, none⟩ 0 k62 #[]) y1 = .ok T y1 := load_block hb1' hTk (fun j v hv => by simpa using hv)
        have HB := Lib.hid hb0
        clear hb1 hb1' hb0 hg1 hf3
        cases ok
        · go_wp2_with fail
          refine (at_prog HP.out (HN.out _)).mono ?_
          rintro e w5 ⟨rfl, hf5⟩
          obtain ⟨y2, hs2, hb2, hg2⟩ := store_all (P := PD) N.toList (hf5.keep HB.out) (by rw [Array.length_toList, hNk, hZk]) HNN.out.1
          have hb3 : y2.heap[w.heap.size]? = some (.cells N 32 (0, 0)) := by simpa using hb2
          have HL := Lib.hid (And.intro hb3 ((HF.out.trans hf5).ofNew hg2 fun k hk => .inr (by omega)))
          clear hb2 hg2 hb3 hf5
          go_wp2_with fail
          refine bodyPost_ret_by (results_agg_tmp rfl _ (b := w.heap.size) (k := 19) (cs := N) (Tryz.isAgg32 _) (Tryz.sizeOf32 _) rfl (load_block HL.out.1 (by rw [← HK32.out]; exact hNk) (fun j v hv => by simpa using hv))) rfl ?_
          exact ⟨by rw [hV1, hV2, ← HNN.out.2]; rfl, HL.out.2⟩
        · obtain ⟨y2, hs2, hb2, hg2⟩ := store_all (P := PD) T.toList HB.out (by rw [Array.length_toList, hTk, hZk]) HT.out.2.1
          have hb3 : y2.heap[w.heap.size]? = some (.cells T 32 (0, 0)) := by simpa using hb2
          have HL := Lib.hid (And.intro hb3 (HF.out.ofNew hg2 fun k hk => .inr (by omega)))
          clear hb2 hg2 hb3
          go_wp2_with fail
          refine bodyPost_ret_by (results_agg_tmp rfl _ (b := w.heap.size) (k := 19) (cs := T) (Tryz.isAgg32 _) (Tryz.sizeOf32 _) rfl (load_block HL.out.1 (by rw [← HK32.out]; exact hTk) (fun j v hv => by simpa using hv))) rfl ?_
          exact ⟨by rw [hV1, hV2, ← HT.out.2.2]; rfl, HL.out.2⟩
end Go.Proofs.YtmhnailcmlomiaaGreatDoor
namespace Go.Proofs.YtmhnailcmlomiaaGreatDoor
open Go.ChangeShapes Go.WideShapes Go.ChangeAt Go.RowKit
set_option linter.unusedVariables false

/-- A target with another port. -/
def withP (T : List Value) (p : Nat) : List Value := T.set 18 (.int .i64 p)
theorem withP_tgt (n : ByteArray) (b : Bool) (xs : List Nat) (h : xs.length = 16) (p : Nat) : withP (tgt n b xs 0) p = tgt n b xs p := by
  have h17 : (adr b xs).length = 17 := by rw [adr_length, h]
  unfold withP tgt
  rw [List.set_cons_succ, List.set_append_right _ _ (by omega), h17]
  rfl
/-- The target that these bytes are written for, and whether there is one. -/
def ptB (l : List UInt8) : Bool := match lastc 58 l with
  | some i => phB (l.take i) && (portV (l.drop (i + 1))).isSome
  | none => false
def ptT (l : List UInt8) : List Value := match lastc 58 l with
  | some i => if phB (l.take i) && (portV (l.drop (i + 1))).isSome then withP (phT (l.take i)) (portN (portV (l.drop (i + 1)))) else noT
  | none => noT
theorem phT_len (l : List UInt8) : (phT l).toArray.size = 19 ∧ ∀ u ∈ (phT l).toArray.toList, u.oneCell' = true := by
  obtain ⟨n, b, xs, h, k⟩ := phT_tgt l
  rw [h]
  exact ⟨by rw [List.size_toArray]; exact tgt_length _ _ _ _ k.1, by intro u hu; exact tgt_one _ _ _ _ u (by simpa using hu)⟩

set_option maxHeartbeats 8000000 in
set_option maxRecDepth 100000 in
theorem ptarget_any (l : List UInt8) (w : World) (hG : Glob w) (hl : l.length < 2147483648) :
    Calls Tryz.prog 17 #[.string (bs l)] w fun e w' => e = .returned (.tuple #[.agg (ptT l).toArray, .bool (ptB l)]) ∧ Fr No w w' := by
  obtain ⟨Z, hZ⟩ : ∃ Z : Array Value, noT.toArray = Z := ⟨_, rfl⟩
  have v62 := zero32
  rw [hZ] at v62
  have hz19 : Z.size = 19 := by rw [← hZ]; rfl
  have hZ1 : ∀ u ∈ Z.toList, u.oneCell' = true := by rw [← hZ]; exact tgt_one _ _ _ _
  have HZ := Lib.hid (And.intro hZ1 hZ)
  have hsz : (bs l).size = l.length := rfl
  have HLA := Lib.hid (last_any l 58 (by omega))
  have HG := Lib.hid hG
  clear hG hZ hZ1
  cases hla : lastc 58 l with
  | none =>
    have HV : Hid (ptT l = noT ∧ ptB l = false) := ⟨by rw [ptT, hla], by rw [ptB, hla]⟩
    rw [hla] at HLA
    generalize bs l = s at hsz HLA ⊢
    clear hla hl
    have e58 : (((58 : UInt8).toNat : Nat) : Int) = 58 := rfl
    have e1 : lastN none = -1 := rfl
    rw [e58, e1] at HLA
    clear e58 e1
    go_enter Tryz.func17, Tryz.ntmps17
    have t3 := Tryz.underlying3
    have u3 := Tryz.runUnderlying3
    have g3 := Tryz.isAgg3
    have z3 := Tryz.sizeOf3
    have t4 := Tryz.underlying4
    have u4 := Tryz.runUnderlying4
    have g4 := Tryz.isAgg4
    have z4 := Tryz.sizeOf4
    have t5 := Tryz.underlying5
    have u5 := Tryz.runUnderlying5
    have g5 := Tryz.isAgg5
    have z5 := Tryz.sizeOf5
    have t9 := Tryz.underlying9
    have u9 := Tryz.runUnderlying9
    have g9 := Tryz.isAgg9
    have z9 := Tryz.sizeOf9
    have t30 := Tryz.underlying30
    have u30 := Tryz.runUnderlying30
    have g30 := Tryz.isAgg30
    have z30 := Tryz.sizeOf30
    have t32 := Tryz.underlying32
    have u32 := Tryz.runUnderlying32
    have g32 := Tryz.isAgg32
    have z32 := Tryz.sizeOf32
    have c53 := Tryz.call53
    have c54 := Tryz.call54
    have c41 := Tryz.call41
    have mixed : Tryz.prog.follows .mixedOrders = true := by kernel_rfl
    obtain ⟨k24, hk24⟩ : ∃ k, k = 17 := ⟨_, rfl⟩
    rw [← hk24] at z30
    have nk24 : ¬ k24 = 0 := by omega
    have HK30 := Lib.hid hk24
    obtain ⟨k62, hk62⟩ : ∃ k, k = 19 := ⟨_, rfl⟩
    rw [← hk62] at z32
    have nk62 : ¬ k62 = 0 := by omega
    have HK32 := Lib.hid hk62
    have hP : Tryz.prog = PD := rfl
    rw [hP] at t3 u3 g3 z3 t4 u4 g4 z4 t5 u5 g5 z5 t9 u9 g9 z9 t30 u30 g30 z30 t32 u32 g32 z32 c53 c54 c41 mixed v62 ⊢
    have HP := Lib.hid hP.symm
    clear hP hk24 hk62
    have hZk : Z.size = k62 := by rw [HK32.out]; exact hz19
    clear hz19
    obtain ⟨y2, hs2, hb2, hg2⟩ := store_all (P := PD) Z.toList (heap_alloc_new w (.cells Z 32)) (by rw [Array.length_toList]) HZ.out.1
    have hb3 : y2.heap[w.heap.size]? = some (.cells Z 32 (0, 0)) := by simpa using hb2
    have HL := Lib.hid (And.intro hb3 ((Fr.alloc No w (.cells Z 32)).ofNew hg2 fun k hk => .inr (by omega)))
    clear hb2 hg2 hb3
    go_wp2_with (first | (go_at_call 53; refine (at_prog HP.out (HLA.out _)).mono ?_; rintro e w3 ⟨rfl, hw3⟩; subst hw3) | fail)
    refine bodyPost_ret_by (results_agg_tmp rfl _ (b := w.heap.size) (k := 19) (cs := Z) (Tryz.isAgg32 _) (Tryz.sizeOf32 _) rfl (load_block HL.out.1 (by rw [← HK32.out]; exact hZk) (fun j v hv => by simpa using hv))) rfl ?_
    exact ⟨by rw [HV.out.1, HV.out.2, HZ.out.2]; rfl, HL.out.2⟩
  | some i =>
    have hil : i < l.length := (List.getElem?_eq_some_iff.1 (lastc_lt hla)).1
    have hV1 : ptT l = if phB (l.take i) && (portV (l.drop (i + 1))).isSome then withP (phT (l.take i)) (portN (portV (l.drop (i + 1)))) else noT := by rw [ptT, hla]
    have hV2 : ptB l = (phB (l.take i) && (portV (l.drop (i + 1))).isSome) := by rw [ptB, hla]
    rw [hla] at HLA
    have hex1 : (bs l).extract 0 i = bs (l.take i) := by rw [bs_extract]; rfl
    have hex2 : (bs l).extract (i + 1) l.length = bs (l.drop (i + 1)) := by rw [bs_extract, List.take_of_length_le]; rw [List.length_drop]; exact Nat.le_refl _
    have HC : Hid (∀ w, Glob w → Calls Tryz.prog 54 #[.string (bs (l.take i))] w fun e w' => e = .returned (.tuple #[.agg (phT (l.take i)).toArray, .bool (phB (l.take i))]) ∧ Fr No w w') := fun w h => phost_any (l.take i) w h (by rw [List.length_take]; omega)
    have HN : Hid (∀ w, Calls Tryz.prog 41 #[.string (bs (l.drop (i + 1)))] w fun e w' => e = .returned (.tuple #[.int .i64 (portN (portV (l.drop (i + 1))) : Nat), .bool (portV (l.drop (i + 1))).isSome]) ∧ w' = w) := fun w => pport_any (l.drop (i + 1)) (by rw [List.length_drop]; omega) w
    have hTl := phT_len (l.take i)
    obtain ⟨T, hT⟩ : ∃ T, (phT (l.take i)).toArray = T := ⟨_, rfl⟩
    have HE : Hid (∀ p : Nat, (withP (phT (l.take i)) p).toArray = T.setIfInBounds 18 (.int .i64 p)) := fun p => by rw [← hT, withP]; simp
    rw [hT] at HC hTl
    have HT := Lib.hid hTl
    have hT19 := hTl.1
    clear hTl hT
    generalize phB (l.take i) = ok at HC hV1 hV2
    generalize (portV (l.drop (i + 1))).isSome = pok at HN hV1 hV2
    generalize portN (portV (l.drop (i + 1))) = p at HN hV1
    generalize bs (l.take i) = s1 at hex1 HC
    generalize bs (l.drop (i + 1)) = s2 at hex2 HN
    generalize bs l = s at hsz hex1 hex2 HLA ⊢
    clear hla
    generalize l.length = ln at hsz hex2 hil hl
    have e58 : (((58 : UInt8).toNat : Nat) : Int) = 58 := rfl
    have e1 : lastN (some i) = (i : Int) := rfl
    rw [e58, e1] at HLA
    clear e58 e1
    have q1 : (0 : Int) ≤ (i : Int) := by omega
    have q2 : (i : Int) ≤ (ln : Int) := by omega
    have q3 : (i : Int) + 1 ≤ (ln : Int) := by omega
    have q4 : (0 : Int) ≤ (i : Int) + 1 := by omega
    have q5 : ((i : Int) + 1).toNat = i + 1 := by omega
    have q6 : i < 2147483648 := by omega
    have q7 : ¬ (i : Int) < 0 := by omega
    clear hil hl
    go_enter Tryz.func17, Tryz.ntmps17
    have t3 := Tryz.underlying3
    have u3 := Tryz.runUnderlying3
    have g3 := Tryz.isAgg3
    have z3 := Tryz.sizeOf3
    have t4 := Tryz.underlying4
    have u4 := Tryz.runUnderlying4
    have g4 := Tryz.isAgg4
    have z4 := Tryz.sizeOf4
    have t5 := Tryz.underlying5
    have u5 := Tryz.runUnderlying5
    have g5 := Tryz.isAgg5
    have z5 := Tryz.sizeOf5
    have t9 := Tryz.underlying9
    have u9 := Tryz.runUnderlying9
    have g9 := Tryz.isAgg9
    have z9 := Tryz.sizeOf9
    have t30 := Tryz.underlying30
    have u30 := Tryz.runUnderlying30
    have g30 := Tryz.isAgg30
    have z30 := Tryz.sizeOf30
    have t32 := Tryz.underlying32
    have u32 := Tryz.runUnderlying32
    have g32 := Tryz.isAgg32
    have z32 := Tryz.sizeOf32
    have c53 := Tryz.call53
    have c54 := Tryz.call54
    have c41 := Tryz.call41
    have mixed : Tryz.prog.follows .mixedOrders = true := by kernel_rfl
    obtain ⟨k24, hk24⟩ : ∃ k, k = 17 := ⟨_, rfl⟩
    rw [← hk24] at z30
    have nk24 : ¬ k24 = 0 := by omega
    have HK30 := Lib.hid hk24
    obtain ⟨k62, hk62⟩ : ∃ k, k = 19 := ⟨_, rfl⟩
    rw [← hk62] at z32
    have nk62 : ¬ k62 = 0 := by omega
    have HK32 := Lib.hid hk62
    have hP : Tryz.prog = PD := rfl
    rw [hP] at t3 u3 g3 z3 t4 u4 g4 z4 t5 u5 g5 z5 t9 u9 g9 z9 t30 u30 g30 z30 t32 u32 g32 z32 c53 c54 c41 mixed v62 ⊢
    have HP := Lib.hid hP.symm
    clear hP hk24 hk62
    have hZk : Z.size = k62 := by rw [HK32.out]; exact hz19
    have hTk : T.size = k62 := by rw [HK32.out]; exact hT19
    clear hz19 hT19
    go_wp2_with (first | (go_at_call 53; refine (at_prog HP.out (HLA.out _)).mono ?_; rintro e w3 ⟨rfl, hw3⟩; subst hw3) | fail)
    refine (at_prog HP.out (HC.out _ (HG.out.fr (Fr.alloc No _ _)))).mono ?_
    rintro e w3 ⟨rfl, hf3⟩
    obtain ⟨y1, hs1, hb1, hg1⟩ := store_all (P := PD) T.toList (heap_alloc_new w3 (.cells Z 32)) (by rw [Array.length_toList, hTk, hZk]) HT.out.2
    have hb1' : y1.heap[w3.heap.size]? = some (.cells T 32 (0, 0)) := by simpa using hb1
    have hlt : w.heap.size < w3.heap.size := Nat.lt_of_lt_of_le (by simp) hf3.size
    have hb0 : y1.heap[w.heap.size]? = some (.cells Z 32 (0, 0)) := by
      have k1 := (Fr.alloc No w3 (.cells Z 32)).keep (hf3.keep (heap_alloc_new w (.cells Z 32)))
      exact (hg1.block _ (Array.getElem?_eq_some_iff.1 k1).1 (by omega)).trans k1
    have HF := Lib.hid ((((Fr.alloc No w (.cells Z 32)).trans hf3).trans (Fr.alloc No w3 (.cells Z 32))).ofNew hg1 fun k hk => .inr (by rw [hk]; omega))
    have HB := Lib.hid (And.intro hb0 hb1')
    clear hb1 hb1' hb0 hg1 hf3
    cases ok
    · obtain ⟨y2, hs2, hb2, hg2⟩ := store_all (P := PD) Z.toList HB.out.1 (by rw [Array.length_toList]) HZ.out.1
      have hb3 : y2.heap[w.heap.size]? = some (.cells Z 32 (0, 0)) := by simpa using hb2
      have HL := Lib.hid (And.intro hb3 (HF.out.ofNew hg2 fun k hk => .inr (by omega)))
      clear hb2 hg2 hb3
      go_wp2_with (first | (go_at_call 41; refine (at_prog HP.out (HN.out _)).mono ?_; rintro e w5 ⟨rfl, hw5⟩; subst hw5) | fail)
      refine bodyPost_ret_by (results_agg_tmp rfl _ (b := w.heap.size) (k := 19) (cs := Z) (Tryz.isAgg32 _) (Tryz.sizeOf32 _) rfl (load_block HL.out.1 (by rw [← HK32.out]; exact hZk) (fun j v hv => by simpa using hv))) rfl ?_
      exact ⟨by rw [hV1, hV2, ← HZ.out.2]; rfl, HL.out.2⟩
    · cases pok
      · obtain ⟨y2, hs2, hb2, hg2⟩ := store_all (P := PD) Z.toList HB.out.1 (by rw [Array.length_toList]) HZ.out.1
        have hb3 : y2.heap[w.heap.size]? = some (.cells Z 32 (0, 0)) := by simpa using hb2
        have HL := Lib.hid (And.intro hb3 (HF.out.ofNew hg2 fun k hk => .inr (by omega)))
        clear hb2 hg2 hb3
        go_wp2_with (first | (go_at_call 41; refine (at_prog HP.out (HN.out _)).mono ?_; rintro e w5 ⟨rfl, hw5⟩; subst hw5) | fail)
        refine bodyPost_ret_by (results_agg_tmp rfl _ (b := w.heap.size) (k := 19) (cs := Z) (Tryz.isAgg32 _) (Tryz.sizeOf32 _) rfl (load_block HL.out.1 (by rw [← HK32.out]; exact hZk) (fun j v hv => by simpa using hv))) rfl ?_
        exact ⟨by rw [hV1, hV2, ← HZ.out.2]; rfl, HL.out.2⟩
      · have hcell : ∃ v, y1.cell? ⟨w3.heap.size, 18, none⟩ = some v := by
          rw [cell_of_row _ _ _ _ _ _ HB.out.2]
          exact ⟨T[18]'(by rw [HT.out.1]; decide), Array.getElem?_eq_getElem _⟩
        have hfz : y1.frozen? ⟨w3.heap.size, 18, none⟩ = false := by simp only [World.frozen?, HB.out.2]; rfl
        obtain ⟨v18, hc18⟩ := hcell
        have hb4 : (y1.setCell ⟨w3.heap.size, 18, none⟩ (.int .i64 p)).heap[w3.heap.size]? = some (.cells (T.setIfInBounds 18 (.int .i64 p)) 32 (0, 0)) := heap_setCell_same y1 w3.heap.size 18 _ _ _ HB.out.2
        have hS19 : (T.setIfInBounds 18 (.int .i64 p)).size = k62 := by rw [Array.size_setIfInBounds]; exact hTk
        have hS1 : ∀ u ∈ (T.setIfInBounds 18 (.int .i64 p)).toList, u.oneCell' = true := by
          intro u hu
          rw [Array.toList_setIfInBounds] at hu
          rcases List.mem_or_eq_of_mem_set hu with hu | hu
          · exact HT.out.2 u hu
          · rw [hu]; rfl
        have hb5 : (y1.setCell ⟨w3.heap.size, 18, none⟩ (.int .i64 p)).heap[w.heap.size]? = some (.cells Z 32 (0, 0)) := (Below.heap_setCell _ _ _ _ (by intro e; have e2 : w.heap.size = w3.heap.size := e; omega)).trans HB.out.1
        have hfr : Fr No w (y1.setCell ⟨w3.heap.size, 18, none⟩ (.int .i64 p)) := HF.out.ofNew (Fr.setCell (fun k => k = w3.heap.size) y1 _ _ rfl) fun k hk => .inr (by rw [hk]; omega)
        have HE2 := Lib.hid (HE.out p)
        generalize T.setIfInBounds 18 (.int .i64 p) = S at hb4 hS19 hS1 HE2
        have hld : Sem.run PD (loadCellsFrom ⟨w3.heap.size, 0, none⟩ 0 k62 #[]) (y1.setCell ⟨w3.heap.size, 18, none⟩ (.int .i64 p)) = .ok S (y1.setCell ⟨w3.heap.size, 18, none⟩ (.int .i64 p)) := load_block hb4 hS19 (fun j v hv => by simpa using hv)
        obtain ⟨y2, hs2, hb2, hg2⟩ := store_all (P := PD) S.toList hb5 (by rw [Array.length_toList, hS19, hZk]) hS1
        have hb3 : y2.heap[w.heap.size]? = some (.cells S 32 (0, 0)) := by simpa using hb2
        have HL := Lib.hid (And.intro hb3 (hfr.ofNew hg2 fun k hk => .inr (by omega)))
        clear hb2 hg2 hb3 hb4 hb5 hfr hS1
        go_wp2_with (first | (go_at_call 41; refine (at_prog HP.out (HN.out _)).mono ?_; rintro e w5 ⟨rfl, hw5⟩; subst hw5) | fail)
        refine bodyPost_ret_by (results_agg_tmp rfl _ (b := w.heap.size) (k := 19) (cs := S) (Tryz.isAgg32 _) (Tryz.sizeOf32 _) rfl (load_block HL.out.1 (by rw [← HK32.out]; exact hS19) (fun j v hv => by simpa using hv))) rfl ?_
        exact ⟨by rw [hV1, hV2]; show _ = Ending.returned (Value.tuple #[.agg (withP (phT (l.take i)) p).toArray, _]); rw [HE2.out]; rfl, HL.out.2⟩
end Go.Proofs.YtmhnailcmlomiaaGreatDoor
