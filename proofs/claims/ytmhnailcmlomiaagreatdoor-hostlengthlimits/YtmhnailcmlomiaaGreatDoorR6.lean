/-
  CONTRACTS of the reference's V6, over this seat's translation: what the call returns.
  Conditions: the groups lie in memory.
-/
import Derived.Test.YtmhnailcmlomiaaGreatDoorW
import Derived.Deep.RegionHeld3
namespace Go.Proofs.YtmhnailcmlomiaaGreatDoor
open Go.ChangeShapes Go.WideShapes Go.ChangeAt Go.RowKit
set_option linter.unusedVariables false

set_option maxHeartbeats 2000000 in
set_option maxRecDepth 100000 in
theorem v6r_bad (a : Option Addr) (n c : Nat) (w : World) (hn : n ≠ 8) :
    Calls Tryz.prog 96 #[.slice a n c] w fun e w' => e = .returned (.tuple #[.agg (adr false zeros).toArray, .bool false]) ∧ Fr No w w' := by
  have hn' : ¬ (n : Int) = 8 := by omega
  have v24 := zero30
  have hz : (adr false zeros).toArray.size = 17 := rfl
  obtain ⟨y, hst, hyb, hyf⟩ := store_all (P := PD) (adr false zeros) (heap_alloc_new w (.cells (adr false zeros).toArray 30)) rfl (adr_one _ _)
  have HY : Hid (y.heap[w.heap.size]? = some (.cells (adr false zeros).toArray 30 (0, 0)) ∧ Fr No w y) := ⟨hyb, (Fr.alloc No w (.cells (adr false zeros).toArray 30)).ofNew hyf fun k hk => .inr (by omega)⟩
  have hl0 : (adr false zeros).toArray.toList = adr false zeros := rfl
  obtain ⟨Z, hZ⟩ : ∃ Z : Array Value, (adr false zeros).toArray = Z := ⟨_, rfl⟩
  rw [← hl0, hZ] at hst
  rw [hZ] at v24 HY hz ⊢
  clear hyb hyf hl0
  have HZ := Lib.hid hZ
  clear hZ
  go_enter Tryz.func96, Tryz.ntmps96
  have t3 := Tryz.underlying3
  have u3 := Tryz.runUnderlying3
  have g3 := Tryz.isAgg3
  have z3 := Tryz.sizeOf3
  have t4 := Tryz.underlying4
  have u4 := Tryz.runUnderlying4
  have g4 := Tryz.isAgg4
  have z4 := Tryz.sizeOf4
  have t28 := Tryz.underlying28
  have u28 := Tryz.runUnderlying28
  have g28 := Tryz.isAgg28
  have z28 := Tryz.sizeOf28
  have t30 := Tryz.underlying30
  have u30 := Tryz.runUnderlying30
  have g30 := Tryz.isAgg30
  have z30 := Tryz.sizeOf30
  have t89 := Tryz.underlying89
  have u89 := Tryz.runUnderlying89
  have g89 := Tryz.isAgg89
  have z89 := Tryz.sizeOf89
  have mixed : Tryz.prog.follows .mixedOrders = true := by kernel_rfl
  obtain ⟨k24, hk24⟩ : ∃ k, k = 17 := ⟨_, rfl⟩
  rw [← hk24] at z30
  have nk24 : ¬ k24 = 0 := by omega
  have HK30 := Lib.hid hk24
  have hP : Tryz.prog = PD := rfl
  rw [hP] at t3 u3 g3 z3 t4 u4 g4 z4 t28 u28 g28 z28 t30 u30 g30 z30 t89 u89 g89 z89 mixed v24 ⊢
  have HP := Lib.hid hP.symm
  clear hP hk24
  rw [← HK30.out] at hz
  go_wp2_with fail
  refine bodyPost_ret_by (results_agg_tmp rfl _ (b := w.heap.size) (k := 17) (cs := Z) (Tryz.isAgg30 _) (Tryz.sizeOf30 _) rfl (load_block HY.out.1 (by rw [← HK30.out]; exact hz) (fun j v hv => by simpa using hv))) rfl ?_
  exact ⟨rfl, HY.out.2⟩

set_option maxHeartbeats 2000000 in
set_option maxRecDepth 100000 in
theorem v6r_good (ad : Addr) (c : Nat) (gs : List Nat) (w : World) (h : At w (some ad) (nums .u16 gs)) (h8 : gs.length = 8) (hb : ∀ g ∈ gs, g < 65536) :
    Calls Tryz.prog 96 #[.slice (some ad) 8 c] w fun e w' => e = .returned (.tuple #[.agg (adr true (pack gs)).toArray, .bool true]) ∧ Fr No w w' := by
  obtain ⟨ab, ao, rfl⟩ : ∃ ab ao, ad = ⟨ab, ao, none⟩ := by
    obtain ⟨b, o, he, _⟩ := h 0 (.int .u16 gs[0]) (nums_get (List.getElem?_eq_getElem (by omega)))
    exact ⟨b, o, Option.some.inj he⟩
  have v24 : ∀ w, (zeroValue 30).run Tryz.prog w = .ok (.agg #[.bool false, .int .u8 0, .int .u8 0, .int .u8 0, .int .u8 0, .int .u8 0, .int .u8 0, .int .u8 0, .int .u8 0, .int .u8 0, .int .u8 0, .int .u8 0, .int .u8 0, .int .u8 0, .int .u8 0, .int .u8 0, .int .u8 0]) w := zero30
  have HS := Lib.hid (And.intro h (And.intro h8 hb))
  clear h h8 hb
  go_enter Tryz.func96, Tryz.ntmps96
  have t3 := Tryz.underlying3
  have u3 := Tryz.runUnderlying3
  have g3 := Tryz.isAgg3
  have z3 := Tryz.sizeOf3
  have t4 := Tryz.underlying4
  have u4 := Tryz.runUnderlying4
  have g4 := Tryz.isAgg4
  have z4 := Tryz.sizeOf4
  have t5 := Tryz.underlying5
  have u5 := Tryz.runUnderlying5
  have g5 := Tryz.isAgg5
  have z5 := Tryz.sizeOf5
  have t28 := Tryz.underlying28
  have u28 := Tryz.runUnderlying28
  have g28 := Tryz.isAgg28
  have z28 := Tryz.sizeOf28
  have t30 := Tryz.underlying30
  have u30 := Tryz.runUnderlying30
  have g30 := Tryz.isAgg30
  have z30 := Tryz.sizeOf30
  have t89 := Tryz.underlying89
  have u89 := Tryz.runUnderlying89
  have g89 := Tryz.isAgg89
  have z89 := Tryz.sizeOf89
  have t93 := Tryz.underlying93
  have u93 := Tryz.runUnderlying93
  have g93 := Tryz.isAgg93
  have z93 := Tryz.sizeOf93
  have t69 := Tryz.underlying69
  have u69 := Tryz.runUnderlying69
  have g69 := Tryz.isAgg69
  have z69 := Tryz.sizeOf69
  have mixed : Tryz.prog.follows .mixedOrders = true := by kernel_rfl
  have hP : Tryz.prog = PD := rfl
  rw [hP] at t3 u3 g3 z3 t4 u4 g4 z4 t5 u5 g5 z5 t28 u28 g28 z28 t30 u30 g30 z30 t89 u89 g89 z89 t93 u93 g93 z93 t69 u69 g69 z69 mixed v24 ⊢
  have HP := Lib.hid hP.symm
  clear hP 
  go_wp2_with fail
  obtain ⟨b1, b2, hF⟩ := alloc2 w (.cells #[.bool false, .int .u8 0, .int .u8 0, .int .u8 0, .int .u8 0, .int .u8 0, .int .u8 0, .int .u8 0, .int .u8 0, .int .u8 0, .int .u8 0, .int .u8 0, .int .u8 0, .int .u8 0, .int .u8 0, .int .u8 0, .int .u8 0] 30) (.cells #[.bool true, .int .u8 0, .int .u8 0, .int .u8 0, .int .u8 0, .int .u8 0, .int .u8 0, .int .u8 0, .int .u8 0, .int .u8 0, .int .u8 0, .int .u8 0, .int .u8 0, .int .u8 0, .int .u8 0, .int .u8 0, .int .u8 0] 30)
  generalize (w.alloc (.cells #[.bool false, .int .u8 0, .int .u8 0, .int .u8 0, .int .u8 0, .int .u8 0, .int .u8 0, .int .u8 0, .int .u8 0, .int .u8 0, .int .u8 0, .int .u8 0, .int .u8 0, .int .u8 0, .int .u8 0, .int .u8 0, .int .u8 0] 30)).alloc (.cells #[.bool true, .int .u8 0, .int .u8 0, .int .u8 0, .int .u8 0, .int .u8 0, .int .u8 0, .int .u8 0, .int .u8 0, .int .u8 0, .int .u8 0, .int .u8 0, .int .u8 0, .int .u8 0, .int .u8 0, .int .u8 0, .int .u8 0] 30) = w2 at b1 b2 hF ⊢
  obtain ⟨n, hn⟩ : ∃ n, w.heap.size = n := ⟨_, rfl⟩
  rw [hn] at b1 b2 ⊢
  have HN : Hid (w.heap.size = n ∧ Fr No w w2 ∧ w2.heap[n]? = some (.cells (adr false zeros).toArray 30 (0, 0)) ∧ w2.heap[n + 1]? = some (.cells (adr true zeros).toArray 30 (0, 0))) := ⟨hn, hF, b1, b2⟩
  clear hn hF b1 b2 v24
  go_loopg [5] 9 (fun g s wr => ∃ i : Nat, s = .int .i64 i ∧ i ≤ 8 ∧ 8 - i < g ∧ Hid (Fr (fun k => k = n + 1) w2 wr ∧ wr.heap[n + 1]? = some (.cells (adr true (part gs i)).toArray 30 (0, 0))))
  case atStart => exact ⟨0, by go_num, by omega, by omega, Fr.refl _ _, HN.out.2.2.2⟩
  case round =>
    obtain ⟨i, rfl, hi8, hig, HR⟩ := hrel
    by_cases hi : i = 8
    · subst hi
      obtain ⟨k24, hk⟩ : ∃ k, k = 17 := ⟨_, rfl⟩
      rw [← hk] at z30
      have hR := HR.out
      rw [part_all HS.out.2.1] at hR
      have hp : Bytes (pack gs) := ⟨by rw [pack_length, HS.out.2.1], pack_bytes HS.out.2.2⟩
      have hone := adr_one true (pack gs)
      have hA : (adr true (pack gs)).toArray.size = 17 := by rw [List.size_toArray, adr_length, hp.1]
      have hbn : wr.heap[n]? = some (.cells (adr false zeros).toArray 30 (0, 0)) := (hR.1.block n (Array.getElem?_eq_some_iff.1 HN.out.2.2.1).1 (by omega)).trans HN.out.2.2.1
      have hl : Sem.run PD (loadCellsFrom ⟨n + 1, 0, none⟩ 0 k24 #[]) wr = .ok (adr true (pack gs)).toArray wr := by rw [hk]; exact load_block hR.2 hA (fun j v hv => by simpa using hv)
      obtain ⟨y, hst, hyb, hyf⟩ := store_all (P := PD) (adr true (pack gs)).toArray.toList hbn (by rw [Array.length_toList, hA]; rfl) hone
      have hsz : (adr true (pack gs)).toArray.size = k24 := by rw [hk]; exact hA
      have HY : Hid (y.heap[n]? = some (.cells (adr true (pack gs)).toArray 30 (0, 0)) ∧ Fr No w y) := by
        refine ⟨by simpa using hyb, ?_⟩
        refine (HN.out.2.1.ofNew hR.1 fun k hk => .inr (by rw [HN.out.1, hk]; omega)).ofNew hyf fun k hk => .inr (by rw [HN.out.1, hk]; omega)
      have nk : ¬ k24 = 0 := by omega
      have HK := Lib.hid (And.intro hk hA)
      clear hk hA hR hp hone hbn hyb hyf HR
      generalize hAA : (adr true (pack gs)).toArray = A at hl hst hsz HY HK ⊢
      have HAA := Lib.hid hAA
      clear hAA
      go_wp2_with fail
      refine bodyPost_ret_by (results_agg_tmp rfl _ (b := n) (k := 17) (cs := A) (Tryz.isAgg30 _) (Tryz.sizeOf30 _) rfl (load_block HY.out.1 HK.out.2 (fun j v hv => by simpa using hv))) rfl ?_
      exact ⟨by rw [HAA.out]; rfl, HY.out.2⟩
    · obtain ⟨g, hg⟩ : ∃ g, gs[i]? = some g := ⟨_, List.getElem?_eq_getElem (by rw [HS.out.2.1]; omega)⟩
      have hg6 : g < 65536 := HS.out.2.2 g (List.mem_of_getElem? hg)
      have c1 : wr.cell? ⟨ab, ao + i, none⟩ = some (.int .u16 g) := by
        obtain ⟨b', o', he, hc⟩ := (((HS.out.1.frNo HN.out.2.1).fr HR.out.1 (fun ad ha hk => by
          have hlt := HS.out.1.lt (by rw [nums_length, HS.out.2.1]; omega)
          cases ha
          have := HN.out.1
          simp at hlt hk
          omega)) i _ (nums_get hg))
        cases he
        exact hc
      have hne : ¬ n + 1 = ab := by
        have hlt := HS.out.1.lt (by rw [nums_length, HS.out.2.1]; omega)
        have := HN.out.1
        simp at hlt
        omega
      have hne' : ¬ ab = n + 1 := fun h => hne h.symm
      have hL := part_length HS.out.2.1 (show i ≤ 8 by omega)
      obtain ⟨z1, hz1⟩ : ∃ z, (part gs i)[2 * i]? = some z := ⟨_, List.getElem?_eq_getElem (by rw [hL]; omega)⟩
      obtain ⟨z2, hz2⟩ : ∃ z, (part gs i)[2 * i + 1]? = some z := ⟨_, List.getElem?_eq_getElem (by rw [hL]; omega)⟩
      have d1 := adr_cell HR.out.2 hz1
      have d2 := adr_cell HR.out.2 hz2
      have f1 := frozen_of_row wr (n + 1) (1 + 2 * i) _ _ HR.out.2
      have f2 := frozen_of_row wr (n + 1) (1 + (2 * i + 1)) _ _ HR.out.2
      have q1 : (0 : Int) ≤ (i : Int) := by omega
      have q2 : (i : Int) < 8 := by omega
      have q3 : (0 : Int) ≤ 2 * (i : Int) := by omega
      have q4 : 2 * (i : Int) < 16 := by omega
      have q5 : (0 : Int) ≤ 2 * (i : Int) + 1 := by omega
      have q6 : 2 * (i : Int) + 1 < 16 := by omega
      clear hL
      go_wp2_with fail
      go_region
      go_wp2_with fail
      go_roundg (8 - i)
      case measure => exact hig
      case rel =>
        have e1 := adr_set (i := 2 * i) (x := g / 256) HR.out.2
        have e2 := adr_set (i := 2 * i + 1) (x := g % 256) e1
        rw [part_step HS.out.2.1 hg] at e2
        refine ⟨i + 1, by go_num, by omega, by omega, ?_, ?_⟩
        · exact HR.out.1.trans (((Fr.setCell (fun k => k = n + 1) _ _ _ rfl).trans (Fr.setCell (fun k => k = n + 1) _ _ _ rfl)).trans (Fr.drew _ _))
        · rw [show ∀ x : World, x.drew.heap = x.heap from fun _ => rfl]
          simpa using e2

/-- V6, whatever the groups. -/
theorem v6_ref (a : Option Addr) (n c : Nat) (gs : List Nat) (w : World) (h : At w a (nums .u16 gs)) (hn : gs.length = n) (hb : ∀ g ∈ gs, g < 65536) :
    Calls Tryz.prog 96 #[.slice a n c] w fun e w' => e = .returned (.tuple #[.agg (adr (decide (n = 8)) (v6Of gs)).toArray, .bool (decide (n = 8))]) ∧ Fr No w w' := by
  by_cases h8 : n = 8
  · subst h8
    cases a with
    | none =>
      obtain ⟨b, o, he, _⟩ := h 0 (.int .u16 gs[0]) (nums_get (List.getElem?_eq_getElem (by omega)))
      cases he
    | some ad =>
      refine (v6r_good ad c gs w h hn hb).mono ?_
      rintro e w' ⟨rfl, hf⟩
      exact ⟨by rw [v6Of, if_pos hn]; rfl, hf⟩
  · refine (v6r_bad a n c w h8).mono ?_
    rintro e w' ⟨rfl, hf⟩
    exact ⟨by rw [v6Of, if_neg (by omega), decide_eq_false h8], hf⟩
end Go.Proofs.YtmhnailcmlomiaaGreatDoor
