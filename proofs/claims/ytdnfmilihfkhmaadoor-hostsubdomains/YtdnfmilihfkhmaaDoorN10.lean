/-
  CONTRACT of package host's ParseTarget, over this seat's translation: what the call returns.
  Conditions: the string is shorter than 2 to the 31; the package variables are as Glob says.
-/
import Derived.Test.YtdnfmilihfkhmaaDoorN9
import Derived.Test.YtdnfmilihfkhmaaDoorN5
import Derived.Test.YtdnfmilihfkhmaaDoorN6
namespace Go.Proofs.YtdnfmilihfkhmaaDoor
open Go.ChangeShapes Go.WideShapes Go.ChangeAt Go.RowKit
set_option linter.unusedVariables false

/-- A target with another port. -/
def withP (T : List Value) (p : Nat) : List Value := T.set 18 (.int .i64 p)
theorem withP_tgt (n : ByteArray) (b : Bool) (xs : List Nat) (h : xs.length = 16) (p : Nat) : withP (tgt n b xs 0) p = tgt n b xs p := by
  have h17 : (adr b xs).length = 17 := by rw [adr_length, h]
  unfold withP tgt
  rw [List.set_cons_succ, List.set_append_right _ _ (by omega), h17]
  rfl
/-- The target that these bytes are written for, and whether there is one. -/
def ptB (l : List UInt8) : Bool := match lastc 58 l with
  | some i => phB (l.take i) && (portV (l.drop (i + 1))).isSome
  | none => false
def ptT (l : List UInt8) : List Value := match lastc 58 l with
  | some i => if phB (l.take i) && (portV (l.drop (i + 1))).isSome then withP (phT (l.take i)) (portN (portV (l.drop (i + 1)))) else noT
  | none => noT
theorem phT_len (l : List UInt8) : (phT l).toArray.size = 19 ∧ ∀ u ∈ (phT l).toArray.toList, u.oneCell' = true := by
  obtain ⟨n, b, xs, h, k⟩ := phT_tgt l
  rw [h]
  exact ⟨by rw [List.size_toArray]; exact tgt_length _ _ _ _ k.1, by intro u hu; exact tgt_one _ _ _ _ u (by simpa using hu)⟩

set_option maxHeartbeats 8000000 in
set_option maxRecDepth 100000 in
theorem ptarget_any (l : List UInt8) (w : World) (hG : Glob w) (hl : l.length < 2147483648) :
    Calls Tryd.prog 53 #[.string (bs l)] w fun e w' => e = .returned (.tuple #[.agg (ptT l).toArray, .bool (ptB l)]) ∧ Fr No w w' := by
  obtain ⟨Z, hZ⟩ : ∃ Z : Array Value, noT.toArray = Z := ⟨_, rfl⟩
  have v62 := zero62
  rw [hZ] at v62
  have hz19 : Z.size = 19 := by rw [← hZ]; rfl
  have hZ1 : ∀ u ∈ Z.toList, u.oneCell' = true := by rw [← hZ]; exact tgt_one _ _ _ _
  have HZ := Lib.hid (And.intro hZ1 hZ)
  have hsz : (bs l).size = l.length := rfl
  have HLA := Lib.hid (last_any l 58 (by omega))
  have HG := Lib.hid hG
  clear hG hZ hZ1
  cases hla : lastc 58 l with
  | none =>
    have HV : Hid (ptT l = noT ∧ ptB l = false) := ⟨by rw [ptT, hla], by rw [ptB, hla]⟩
    rw [hla] at HLA
    generalize bs l = s at hsz HLA ⊢
    clear hla hl
    have e58 : (((58 : UInt8).toNat : Nat) : Int) = 58 := rfl
    have e1 : lastN none = -1 := rfl
    rw [e58, e1] at HLA
    clear e58 e1
    go_enter Tryd.func53, Tryd.ntmps53
    have t3 := Tryd.underlying3
    have u3 := Tryd.runUnderlying3
    have g3 := Tryd.isAgg3
    have z3 := Tryd.sizeOf3
    have t4 := Tryd.underlying4
    have u4 := Tryd.runUnderlying4
    have g4 := Tryd.isAgg4
    have z4 := Tryd.sizeOf4
    have t5 := Tryd.underlying5
    have u5 := Tryd.runUnderlying5
    have g5 := Tryd.isAgg5
    have z5 := Tryd.sizeOf5
    have t9 := Tryd.underlying9
    have u9 := Tryd.runUnderlying9
    have g9 := Tryd.isAgg9
    have z9 := Tryd.sizeOf9
    have t24 := Tryd.underlying24
    have u24 := Tryd.runUnderlying24
    have g24 := Tryd.isAgg24
    have z24 := Tryd.sizeOf24
    have t62 := Tryd.underlying62
    have u62 := Tryd.runUnderlying62
    have g62 := Tryd.isAgg62
    have z62 := Tryd.sizeOf62
    have c77 := Tryd.call77
    have c78 := Tryd.call78
    have c35 := Tryd.call35
    have mixed : Tryd.prog.follows .mixedOrders = true := by kernel_rfl
    obtain ⟨k24, hk24⟩ : ∃ k, k = 17 := ⟨_, rfl⟩
    rw [← hk24] at z24
    have nk24 : ¬ k24 = 0 := by omega
    have HK24 := Lib.hid hk24
    obtain ⟨k62, hk62⟩ : ∃ k, k = 19 := ⟨_, rfl⟩
    rw [← hk62] at z62
    have nk62 : ¬ k62 = 0 := by omega
    have HK62 := Lib.hid hk62
    have hP : Tryd.prog = PD := rfl
    rw [hP] at t3 u3 g3 z3 t4 u4 g4 z4 t5 u5 g5 z5 t9 u9 g9 z9 t24 u24 g24 z24 t62 u62 g62 z62 c77 c78 c35 mixed v62 ⊢
    have HP := Lib.hid hP.symm
    clear hP hk24 hk62
    have hZk : Z.size = k62 := by rw [HK62.out]; exact hz19
    clear hz19
    obtain ⟨y2, hs2, hb2, hg2⟩ := store_all (P := PD) Z.toList (heap_alloc_new w (.cells Z 62)) (by rw [Array.length_toList]) HZ.out.1
    have hb3 : y2.heap[w.heap.size]? = some (.cells Z 62 (0, 0)) := by simpa using hb2
    have HL := Lib.hid (And.intro hb3 ((Fr.alloc No w (.cells Z 62)).ofNew hg2 fun k hk => .inr (by omega)))
    clear hb2 hg2 hb3
    go_wp2_with (first | (go_at_call 77; refine (at_prog HP.out (HLA.out _)).mono ?_; rintro e w3 ⟨rfl, hw3⟩; subst hw3) | fail)
    refine bodyPost_ret_by (results_agg_tmp rfl _ (b := w.heap.size) (k := 19) (cs := Z) (Tryd.isAgg62 _) (Tryd.sizeOf62 _) rfl (load_block HL.out.1 (by rw [← HK62.out]; exact hZk) (fun j v hv => by simpa using hv))) rfl ?_
    exact ⟨by rw [HV.out.1, HV.out.2, HZ.out.2]; rfl, HL.out.2⟩
  | some i =>
    have hil : i < l.length := (List.getElem?_eq_some_iff.1 (lastc_lt hla)).1
    have hV1 : ptT l = if phB (l.take i) && (portV (l.drop (i + 1))).isSome then withP (phT (l.take i)) (portN (portV (l.drop (i + 1)))) else noT := by rw [ptT, hla]
    have hV2 : ptB l = (phB (l.take i) && (portV (l.drop (i + 1))).isSome) := by rw [ptB, hla]
    rw [hla] at HLA
    have hex1 : (bs l).extract 0 i = bs (l.take i) := by rw [bs_extract]; rfl
    have hex2 : (bs l).extract (i + 1) l.length = bs (l.drop (i + 1)) := by rw [bs_extract, List.take_of_length_le]; rw [List.length_drop]; exact Nat.le_refl _
    have HC : Hid (∀ w, Glob w → Calls Tryd.prog 78 #[.string (bs (l.take i))] w fun e w' => e = .returned (.tuple #[.agg (phT (l.take i)).toArray, .bool (phB (l.take i))]) ∧ Fr No w w') := fun w h => phost_any (l.take i) w h (by rw [List.length_take]; omega)
    have HN : Hid (∀ w, Calls Tryd.prog 35 #[.string (bs (l.drop (i + 1)))] w fun e w' => e = .returned (.tuple #[.int .i64 (portN (portV (l.drop (i + 1))) : Nat), .bool (portV (l.drop (i + 1))).isSome]) ∧ w' = w) := fun w => pport_any (l.drop (i + 1)) (by rw [List.length_drop]; omega) w
    have hTl := phT_len (l.take i)
    obtain ⟨T, hT⟩ : ∃ T, (phT (l.take i)).toArray = T := ⟨_, rfl⟩
    have HE : Hid (∀ p : Nat, (withP (phT (l.take i)) p).toArray = T.setIfInBounds 18 (.int .i64 p)) := fun p => by rw [← hT, withP]; simp
    rw [hT] at HC hTl
    have HT := Lib.hid hTl
    have hT19 := hTl.1
    clear hTl hT
    generalize phB (l.take i) = ok at HC hV1 hV2
    generalize (portV (l.drop (i + 1))).isSome = pok at HN hV1 hV2
    generalize portN (portV (l.drop (i + 1))) = p at HN hV1
    generalize bs (l.take i) = s1 at hex1 HC
    generalize bs (l.drop (i + 1)) = s2 at hex2 HN
    generalize bs l = s at hsz hex1 hex2 HLA ⊢
    clear hla
    generalize l.length = ln at hsz hex2 hil hl
    have e58 : (((58 : UInt8).toNat : Nat) : Int) = 58 := rfl
    have e1 : lastN (some i) = (i : Int) := rfl
    rw [e58, e1] at HLA
    clear e58 e1
    have q1 : (0 : Int) ≤ (i : Int) := by omega
    have q2 : (i : Int) ≤ (ln : Int) := by omega
    have q3 : (i : Int) + 1 ≤ (ln : Int) := by omega
    have q4 : (0 : Int) ≤ (i : Int) + 1 := by omega
    have q5 : ((i : Int) + 1).toNat = i + 1 := by omega
    have q6 : i < 2147483648 := by omega
    have q7 : ¬ (i : Int) < 0 := by omega
    clear hil hl
    go_enter Tryd.func53, Tryd.ntmps53
    have t3 := Tryd.underlying3
    have u3 := Tryd.runUnderlying3
    have g3 := Tryd.isAgg3
    have z3 := Tryd.sizeOf3
    have t4 := Tryd.underlying4
    have u4 := Tryd.runUnderlying4
    have g4 := Tryd.isAgg4
    have z4 := Tryd.sizeOf4
    have t5 := Tryd.underlying5
    have u5 := Tryd.runUnderlying5
    have g5 := Tryd.isAgg5
    have z5 := Tryd.sizeOf5
    have t9 := Tryd.underlying9
    have u9 := Tryd.runUnderlying9
    have g9 := Tryd.isAgg9
    have z9 := Tryd.sizeOf9
    have t24 := Tryd.underlying24
    have u24 := Tryd.runUnderlying24
    have g24 := Tryd.isAgg24
    have z24 := Tryd.sizeOf24
    have t62 := Tryd.underlying62
    have u62 := Tryd.runUnderlying62
    have g62 := Tryd.isAgg62
    have z62 := Tryd.sizeOf62
    have c77 := Tryd.call77
    have c78 := Tryd.call78
    have c35 := Tryd.call35
    have mixed : Tryd.prog.follows .mixedOrders = true := by kernel_rfl
    obtain ⟨k24, hk24⟩ : ∃ k, k = 17 := ⟨_, rfl⟩
    rw [← hk24] at z24
    have nk24 : ¬ k24 = 0 := by omega
    have HK24 := Lib.hid hk24
    obtain ⟨k62, hk62⟩ : ∃ k, k = 19 := ⟨_, rfl⟩
    rw [← hk62] at z62
    have nk62 : ¬ k62 = 0 := by omega
    have HK62 := Lib.hid hk62
    have hP : Tryd.prog = PD := rfl
    rw [hP] at t3 u3 g3 z3 t4 u4 g4 z4 t5 u5 g5 z5 t9 u9 g9 z9 t24 u24 g24 z24 t62 u62 g62 z62 c77 c78 c35 mixed v62 ⊢
    have HP := Lib.hid hP.symm
    clear hP hk24 hk62
    have hZk : Z.size = k62 := by rw [HK62.out]; exact hz19
    have hTk : T.size = k62 := by rw [HK62.out]; exact hT19
    clear hz19 hT19
    go_wp2_with (first | (go_at_call 77; refine (at_prog HP.out (HLA.out _)).mono ?_; rintro e w3 ⟨rfl, hw3⟩; subst hw3) | fail)
    refine (at_prog HP.out (HC.out _ (HG.out.fr (Fr.alloc No _ _)))).mono ?_
    rintro e w3 ⟨rfl, hf3⟩
    obtain ⟨y1, hs1, hb1, hg1⟩ := store_all (P := PD) T.toList (heap_alloc_new w3 (.cells Z 62)) (by rw [Array.length_toList, hTk, hZk]) HT.out.2
    have hb1' : y1.heap[w3.heap.size]? = some (.cells T 62 (0, 0)) := by simpa using hb1
    have hlt : w.heap.size < w3.heap.size := Nat.lt_of_lt_of_le (by simp) hf3.size
    have hb0 : y1.heap[w.heap.size]? = some (.cells Z 62 (0, 0)) := by
      have k1 := (Fr.alloc No w3 (.cells Z 62)).keep (hf3.keep (heap_alloc_new w (.cells Z 62)))
      exact (hg1.block _ (Array.getElem?_eq_some_iff.1 k1).1 (by omega)).trans k1
    have HF := Lib.hid ((((Fr.alloc No w (.cells Z 62)).trans hf3).trans (Fr.alloc No w3 (.cells Z 62))).ofNew hg1 fun k hk => .inr (by rw [hk]; omega))
    have HB := Lib.hid (And.intro hb0 hb1')
    clear hb1 hb1' hb0 hg1 hf3
    cases ok
    · obtain ⟨y2, hs2, hb2, hg2⟩ := store_all (P := PD) Z.toList HB.out.1 (by rw [Array.length_toList]) HZ.out.1
      have hb3 : y2.heap[w.heap.size]? = some (.cells Z 62 (0, 0)) := by simpa using hb2
      have HL := Lib.hid (And.intro hb3 (HF.out.ofNew hg2 fun k hk => .inr (by omega)))
      clear hb2 hg2 hb3
      go_wp2_with (first | (go_at_call 35; refine (at_prog HP.out (HN.out _)).mono ?_; rintro e w5 ⟨rfl, hw5⟩; subst hw5) | fail)
      refine bodyPost_ret_by (results_agg_tmp rfl _ (b := w.heap.size) (k := 19) (cs := Z) (Tryd.isAgg62 _) (Tryd.sizeOf62 _) rfl (load_block HL.out.1 (by rw [← HK62.out]; exact hZk) (fun j v hv => by simpa using hv))) rfl ?_
      exact ⟨by rw [hV1, hV2, ← HZ.out.2]; rfl, HL.out.2⟩
    · cases pok
      · obtain ⟨y2, hs2, hb2, hg2⟩ := store_all (P := PD) Z.toList HB.out.1 (by rw [Array.length_toList]) HZ.out.1
        have hb3 : y2.heap[w.heap.size]? = some (.cells Z 62 (0, 0)) := by simpa using hb2
        have HL := Lib.hid (And.intro hb3 (HF.out.ofNew hg2 fun k hk => .inr (by omega)))
        clear hb2 hg2 hb3
        go_wp2_with (first | (go_at_call 35; refine (at_prog HP.out (HN.out _)).mono ?_; rintro e w5 ⟨rfl, hw5⟩; subst hw5) | fail)
        refine bodyPost_ret_by (results_agg_tmp rfl _ (b := w.heap.size) (k := 19) (cs := Z) (Tryd.isAgg62 _) (Tryd.sizeOf62 _) rfl (load_block HL.out.1 (by rw [← HK62.out]; exact hZk) (fun j v hv => by simpa using hv))) rfl ?_
        exact ⟨by rw [hV1, hV2, ← HZ.out.2]; rfl, HL.out.2⟩
      · have hcell : ∃ v, y1.cell? ⟨w3.heap.size, 18, none⟩ = some v := by
          rw [cell_of_row _ _ _ _ _ _ HB.out.2]
          exact ⟨T[18]'(by rw [HT.out.1]; decide), Array.getElem?_eq_getElem _⟩
        have hfz : y1.frozen? ⟨w3.heap.size, 18, none⟩ = false := by simp only [World.frozen?, HB.out.2]; rfl
        obtain ⟨v18, hc18⟩ := hcell
        have hb4 : (y1.setCell ⟨w3.heap.size, 18, none⟩ (.int .i64 p)).heap[w3.heap.size]? = some (.cells (T.setIfInBounds 18 (.int .i64 p)) 62 (0, 0)) := heap_setCell_same y1 w3.heap.size 18 _ _ _ HB.out.2
        have hS19 : (T.setIfInBounds 18 (.int .i64 p)).size = k62 := by rw [Array.size_setIfInBounds]; exact hTk
        have hS1 : ∀ u ∈ (T.setIfInBounds 18 (.int .i64 p)).toList, u.oneCell' = true := by
          intro u hu
          rw [Array.toList_setIfInBounds] at hu
          rcases List.mem_or_eq_of_mem_set hu with hu | hu
          · exact HT.out.2 u hu
          · rw [hu]; rfl
        have hb5 : (y1.setCell ⟨w3.heap.size, 18, none⟩ (.int .i64 p)).heap[w.heap.size]? = some (.cells Z 62 (0, 0)) := (Below.heap_setCell _ _ _ _ (by intro e; have e2 : w.heap.size = w3.heap.size := e; omega)).trans HB.out.1
        have hfr : Fr No w (y1.setCell ⟨w3.heap.size, 18, none⟩ (.int .i64 p)) := HF.out.ofNew (Fr.setCell (fun k => k = w3.heap.size) y1 _ _ rfl) fun k hk => .inr (by rw [hk]; omega)
        have HE2 := Lib.hid (HE.out p)
        generalize T.setIfInBounds 18 (.int .i64 p) = S at hb4 hS19 hS1 HE2
        have hld : Sem.run PD (loadCellsFrom ⟨w3.heap.size, 0, none⟩ 0 k62 #[]) (y1.setCell ⟨w3.heap.size, 18, none⟩ (.int .i64 p)) = .ok S (y1.setCell ⟨w3.heap.size, 18, none⟩ (.int .i64 p)) := load_block hb4 hS19 (fun j v hv => by simpa using hv)
        obtain ⟨y2, hs2, hb2, hg2⟩ := store_all (P := PD) S.toList hb5 (by rw [Array.length_toList, hS19, hZk]) hS1
        have hb3 : y2.heap[w.heap.size]? = some (.cells S 62 (0, 0)) := by simpa using hb2
        have HL := Lib.hid (And.intro hb3 (hfr.ofNew hg2 fun k hk => .inr (by omega)))
        clear hb2 hg2 hb3 hb4 hb5 hfr hS1
        go_wp2_with (first | (go_at_call 35; refine (at_prog HP.out (HN.out _)).mono ?_; rintro e w5 ⟨rfl, hw5⟩; subst hw5) | fail)
        refine bodyPost_ret_by (results_agg_tmp rfl _ (b := w.heap.size) (k := 19) (cs := S) (Tryd.isAgg62 _) (Tryd.sizeOf62 _) rfl (load_block HL.out.1 (by rw [← HK62.out]; exact hS19) (fun j v hv => by simpa using hv))) rfl ?_
        exact ⟨by rw [hV1, hV2]; show _ = Ending.returned (Value.tuple #[.agg (withP (phT (l.take i)) p).toArray, _]); rw [HE2.out]; rfl, HL.out.2⟩
end Go.Proofs.YtdnfmilihfkhmaaDoor
