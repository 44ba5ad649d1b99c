/-
  CONTRACTS of V6 and groupsOf, over this seat's translation: what each call returns.
  Conditions: the groups lie in memory; the argument is an address.
-/
import Derived.Test.YtdnfmilihfkhmaaDoorV
namespace Go.Proofs.YtdnfmilihfkhmaaDoor
open Go.ChangeShapes Go.WideShapes Go.ChangeAt Go.RowKit
set_option linter.unusedVariables false

def zeros : List Nat := [0, 0, 0, 0, 0, 0, 0, 0, 0, 0, 0, 0, 0, 0, 0, 0]
/-- The bytes of groups. -/
def pack (gs : List Nat) : List Nat := gs.flatMap fun g => [g / 256, g % 256]
/-- What V6 gives. -/
def v6Of (gs : List Nat) : List Nat := if gs.length = 8 then pack gs else zeros

theorem pack_length (gs : List Nat) : (pack gs).length = 2 * gs.length := by
  induction gs with
  | nil => rfl
  | cons g gs ih => simp [pack] at ih ⊢; omega
theorem pack_bytes {gs : List Nat} (h : ∀ g ∈ gs, g < 65536) : ∀ x ∈ pack gs, x < 256 := by
  intro x hx
  obtain ⟨g, hg, hx⟩ := List.mem_flatMap.1 hx
  have := h g hg
  simp at hx
  omega
theorem zeros_bytes : Bytes zeros := ⟨rfl, fun x hx => by simp [zeros] at hx; omega⟩
theorem v6_bytes {gs : List Nat} (h : ∀ g ∈ gs, g < 65536) : Bytes (v6Of gs) := by
  unfold v6Of
  split
  · rename_i h8
    exact ⟨by rw [pack_length, h8], pack_bytes h⟩
  · exact zeros_bytes

/-- The bytes when the first i groups have been written. -/
def part (gs : List Nat) (i : Nat) : List Nat := pack (gs.take i) ++ List.replicate (16 - 2 * i) 0
theorem part_length {gs : List Nat} {i : Nat} (h8 : gs.length = 8) (hi : i ≤ 8) : (part gs i).length = 16 := by
  rw [part, List.length_append, pack_length, List.length_take, List.length_replicate]; omega
theorem part_step {gs : List Nat} {i g : Nat} (h8 : gs.length = 8) (hg : gs[i]? = some g) : ((part gs i).set (2 * i) (g / 256)).set (2 * i + 1) (g % 256) = part gs (i + 1) := by
  have hi : i < 8 := by have := (List.getElem?_eq_some_iff.1 hg).1; omega
  have hl : (pack (gs.take i)).length = 2 * i := by rw [pack_length, List.length_take]; omega
  have e : List.replicate (16 - 2 * i) 0 = 0 :: 0 :: List.replicate (16 - 2 * (i + 1)) 0 := by
    rw [show 16 - 2 * i = (16 - 2 * (i + 1)) + 1 + 1 by omega, List.replicate_succ, List.replicate_succ]
  have ht : gs.take (i + 1) = gs.take i ++ [g] := by
    rw [List.take_add_one, hg]; rfl
  have hp : pack (gs.take i ++ [g]) = pack (gs.take i) ++ [g / 256, g % 256] := by simp [pack]
  rw [part, part, e, ht, hp]
  rw [List.set_append_right _ _ (by omega), hl, Nat.sub_self, List.set_cons_zero, List.set_append_right _ _ (by omega), hl, show 2 * i + 1 - 2 * i = 1 by omega]
  simp
theorem part_zero (gs : List Nat) : part gs 0 = zeros := rfl
theorem part_all {gs : List Nat} (h8 : gs.length = 8) : part gs 8 = pack gs := by
  rw [part, List.take_of_length_le (by omega)]; simp

theorem adr_set {w : World} {m i x : Nat} {b : Bool} {L : List Nat} {t : TypeId} (h : w.heap[m]? = some (.cells (adr b L).toArray t (0, 0))) : (w.setCell ⟨m, 1 + i, none⟩ (.int .u8 x)).heap[m]? = some (.cells (adr b (L.set i x)).toArray t (0, 0)) := by
  rw [heap_setCell_same w m (1 + i) _ _ _ h]
  congr 2
  apply Array.ext'
  rw [Nat.add_comm]
  simp [adr, nums, List.map_set]
theorem adr_cell {w : World} {m i x : Nat} {b : Bool} {L : List Nat} {t : TypeId} {fr : Nat × Nat} (h : w.heap[m]? = some (.cells (adr b L).toArray t fr)) (hx : L[i]? = some x) : w.cell? ⟨m, 1 + i, none⟩ = some (.int .u8 x) := by
  rw [cell_of_row _ _ _ _ _ _ h]
  simpa using adr_get hx

theorem zero24 : ∀ w, (zeroValue 24).run Tryd.prog w = .ok (.agg (adr false zeros).toArray) w := by
  intro w
  kernel_rfl

set_option maxHeartbeats 2000000 in
set_option maxRecDepth 100000 in
theorem v6_bad (a : Option Addr) (n c : Nat) (w : World) (hn : n ≠ 8) :
    Calls Tryd.prog 25 #[.slice a n c] w fun e w' => e = .returned (.tuple #[.agg (adr false zeros).toArray, .bool false]) ∧ Fr No w w' := by
  have hn' : ¬ (n : Int) = 8 := by omega
  have v24 := zero24
  have hz : (adr false zeros).toArray.size = 17 := rfl
  obtain ⟨y, hst, hyb, hyf⟩ := store_all (P := PD) (adr false zeros) (heap_alloc_new w (.cells (adr false zeros).toArray 24)) rfl (adr_one _ _)
  have HY : Hid (y.heap[w.heap.size]? = some (.cells (adr false zeros).toArray 24 (0, 0)) ∧ Fr No w y) := ⟨hyb, (Fr.alloc No w (.cells (adr false zeros).toArray 24)).ofNew hyf fun k hk => .inr (by omega)⟩
  have hl0 : (adr false zeros).toArray.toList = adr false zeros := rfl
  obtain ⟨Z, hZ⟩ : ∃ Z : Array Value, (adr false zeros).toArray = Z := ⟨_, rfl⟩
  rw [← hl0, hZ] at hst
  rw [hZ] at v24 HY hz ⊢
  clear hyb hyf hl0
  have HZ := Lib.hid hZ
  clear hZ
  go_enter Tryd.func25, Tryd.ntmps25
  have t3 := Tryd.underlying3
  have u3 := Tryd.runUnderlying3
  have g3 := Tryd.isAgg3
  have z3 := Tryd.sizeOf3
  have t4 := Tryd.underlying4
  have u4 := Tryd.runUnderlying4
  have g4 := Tryd.isAgg4
  have z4 := Tryd.sizeOf4
  have t22 := Tryd.underlying22
  have u22 := Tryd.runUnderlying22
  have g22 := Tryd.isAgg22
  have z22 := Tryd.sizeOf22
  have t24 := Tryd.underlying24
  have u24 := Tryd.runUnderlying24
  have g24 := Tryd.isAgg24
  have z24 := Tryd.sizeOf24
  have t37 := Tryd.underlying37
  have u37 := Tryd.runUnderlying37
  have g37 := Tryd.isAgg37
  have z37 := Tryd.sizeOf37
  have mixed : Tryd.prog.follows .mixedOrders = true := by kernel_rfl
  obtain ⟨k24, hk24⟩ : ∃ k, k = 17 := ⟨_, rfl⟩
  rw [← hk24] at z24
  have nk24 : ¬ k24 = 0 := by omega
  have HK24 := Lib.hid hk24
  have hP : Tryd.prog = PD := rfl
  rw [hP] at t3 u3 g3 z3 t4 u4 g4 z4 t22 u22 g22 z22 t24 u24 g24 z24 t37 u37 g37 z37 mixed v24 ⊢
  have HP := Lib.hid hP.symm
  clear hP hk24
  rw [← HK24.out] at hz
  go_wp2_with fail
  refine bodyPost_ret_by (results_agg_tmp rfl _ (b := w.heap.size) (k := 17) (cs := Z) (Tryd.isAgg24 _) (Tryd.sizeOf24 _) rfl (load_block HY.out.1 (by rw [← HK24.out]; exact hz) (fun j v hv => by simpa using hv))) rfl ?_
  exact ⟨rfl, HY.out.2⟩

theorem zero73 : ∀ w, (zeroValue 73).run Tryd.prog w = .ok (.agg (nums .u16 [0, 0, 0, 0, 0, 0, 0, 0]).toArray) w := by
  intro w
  kernel_rfl

set_option maxHeartbeats 2000000 in
set_option maxRecDepth 100000 in
theorem v6_good (ad : Addr) (c : Nat) (gs : List Nat) (w : World) (h : At w (some ad) (nums .u16 gs)) (h8 : gs.length = 8) (hb : ∀ g ∈ gs, g < 65536) :
    Calls Tryd.prog 25 #[.slice (some ad) 8 c] w fun e w' => e = .returned (.tuple #[.agg (adr true (pack gs)).toArray, .bool true]) ∧ Fr No w w' := by
  obtain ⟨ab, ao, rfl⟩ : ∃ ab ao, ad = ⟨ab, ao, none⟩ := by
    obtain ⟨b, o, he, _⟩ := h 0 (.int .u16 gs[0]) (nums_get (List.getElem?_eq_getElem (by omega)))
    exact ⟨b, o, Option.some.inj he⟩
  have v24 : ∀ w, (zeroValue 24).run Tryd.prog w = .ok (.agg #[.bool false, .int .u8 0, .int .u8 0, .int .u8 0, .int .u8 0, .int .u8 0, .int .u8 0, .int .u8 0, .int .u8 0, .int .u8 0, .int .u8 0, .int .u8 0, .int .u8 0, .int .u8 0, .int .u8 0, .int .u8 0, .int .u8 0]) w := zero24
  have HS := Lib.hid (And.intro h (And.intro h8 hb))
  clear h h8 hb
  go_enter Tryd.func25, Tryd.ntmps25
  have t3 := Tryd.underlying3
  have u3 := Tryd.runUnderlying3
  have g3 := Tryd.isAgg3
  have z3 := Tryd.sizeOf3
  have t4 := Tryd.underlying4
  have u4 := Tryd.runUnderlying4
  have g4 := Tryd.isAgg4
  have z4 := Tryd.sizeOf4
  have t5 := Tryd.underlying5
  have u5 := Tryd.runUnderlying5
  have g5 := Tryd.isAgg5
  have z5 := Tryd.sizeOf5
  have t22 := Tryd.underlying22
  have u22 := Tryd.runUnderlying22
  have g22 := Tryd.isAgg22
  have z22 := Tryd.sizeOf22
  have t24 := Tryd.underlying24
  have u24 := Tryd.runUnderlying24
  have g24 := Tryd.isAgg24
  have z24 := Tryd.sizeOf24
  have t37 := Tryd.underlying37
  have u37 := Tryd.runUnderlying37
  have g37 := Tryd.isAgg37
  have z37 := Tryd.sizeOf37
  have t39 := Tryd.underlying39
  have u39 := Tryd.runUnderlying39
  have g39 := Tryd.isAgg39
  have z39 := Tryd.sizeOf39
  have t30 := Tryd.underlying30
  have u30 := Tryd.runUnderlying30
  have g30 := Tryd.isAgg30
  have z30 := Tryd.sizeOf30
  have mixed : Tryd.prog.follows .mixedOrders = true := by kernel_rfl
  have hP : Tryd.prog = PD := rfl
  rw [hP] at t3 u3 g3 z3 t4 u4 g4 z4 t5 u5 g5 z5 t22 u22 g22 z22 t24 u24 g24 z24 t37 u37 g37 z37 t39 u39 g39 z39 t30 u30 g30 z30 mixed v24 ⊢
  have HP := Lib.hid hP.symm
  clear hP 
  go_wp2_with fail
  obtain ⟨b1, b2, hF⟩ := alloc2 w (.cells #[.bool false, .int .u8 0, .int .u8 0, .int .u8 0, .int .u8 0, .int .u8 0, .int .u8 0, .int .u8 0, .int .u8 0, .int .u8 0, .int .u8 0, .int .u8 0, .int .u8 0, .int .u8 0, .int .u8 0, .int .u8 0, .int .u8 0] 24) (.cells #[.bool true, .int .u8 0, .int .u8 0, .int .u8 0, .int .u8 0, .int .u8 0, .int .u8 0, .int .u8 0, .int .u8 0, .int .u8 0, .int .u8 0, .int .u8 0, .int .u8 0, .int .u8 0, .int .u8 0, .int .u8 0, .int .u8 0] 24)
  generalize (w.alloc (.cells #[.bool false, .int .u8 0, .int .u8 0, .int .u8 0, .int .u8 0, .int .u8 0, .int .u8 0, .int .u8 0, .int .u8 0, .int .u8 0, .int .u8 0, .int .u8 0, .int .u8 0, .int .u8 0, .int .u8 0, .int .u8 0, .int .u8 0] 24)).alloc (.cells #[.bool true, .int .u8 0, .int .u8 0, .int .u8 0, .int .u8 0, .int .u8 0, .int .u8 0, .int .u8 0, .int .u8 0, .int .u8 0, .int .u8 0, .int .u8 0, .int .u8 0, .int .u8 0, .int .u8 0, .int .u8 0, .int .u8 0] 24) = w2 at b1 b2 hF ⊢
  obtain ⟨n, hn⟩ : ∃ n, w.heap.size = n := ⟨_, rfl⟩
  rw [hn] at b1 b2 ⊢
  have HN : Hid (w.heap.size = n ∧ Fr No w w2 ∧ w2.heap[n]? = some (.cells (adr false zeros).toArray 24 (0, 0)) ∧ w2.heap[n + 1]? = some (.cells (adr true zeros).toArray 24 (0, 0))) := ⟨hn, hF, b1, b2⟩
  clear hn hF b1 b2 v24
  go_loopg [14] 9 (fun g s wr => ∃ i : Nat, s = .int .i64 i ∧ i ≤ 8 ∧ 8 - i < g ∧ Hid (Fr (fun k => k = n + 1) w2 wr ∧ wr.heap[n + 1]? = some (.cells (adr true (part gs i)).toArray 24 (0, 0))))
  case atStart => exact ⟨0, by go_num, by omega, by omega, Fr.refl _ _, HN.out.2.2.2⟩
  case round =>
    obtain ⟨i, rfl, hi8, hig, HR⟩ := hrel
    by_cases hi : i = 8
    · subst hi
      obtain ⟨k24, hk⟩ : ∃ k, k = 17 := ⟨_, rfl⟩
      rw [← hk] at z24
      have hR := HR.out
      rw [part_all HS.out.2.1] at hR
      have hp : Bytes (pack gs) := ⟨by rw [pack_length, HS.out.2.1], pack_bytes HS.out.2.2⟩
      have hone := adr_one true (pack gs)
      have hA : (adr true (pack gs)).toArray.size = 17 := by rw [List.size_toArray, adr_length, hp.1]
      have hbn : wr.heap[n]? = some (.cells (adr false zeros).toArray 24 (0, 0)) := (hR.1.block n (Array.getElem?_eq_some_iff.1 HN.out.2.2.1).1 (by omega)).trans HN.out.2.2.1
      have hl : Sem.run PD (loadCellsFrom ⟨n + 1, 0, none⟩ 0 k24 #[]) wr = .ok (adr true (pack gs)).toArray wr := by rw [hk]; exact load_block hR.2 hA (fun j v hv => by simpa using hv)
      obtain ⟨y, hst, hyb, hyf⟩ := store_all (P := PD) (adr true (pack gs)).toArray.toList hbn (by rw [Array.length_toList, hA]; rfl) hone
      have hsz : (adr true (pack gs)).toArray.size = k24 := by rw [hk]; exact hA
      have HY : Hid (y.heap[n]? = some (.cells (adr true (pack gs)).toArray 24 (0, 0)) ∧ Fr No w y) := by
        refine ⟨by simpa using hyb, ?_⟩
        refine (HN.out.2.1.ofNew hR.1 fun k hk => .inr (by rw [HN.out.1, hk]; omega)).ofNew hyf fun k hk => .inr (by rw [HN.out.1, hk]; omega)
      have nk : ¬ k24 = 0 := by omega
      have HK := Lib.hid (And.intro hk hA)
      clear hk hA hR hp hone hbn hyb hyf HR
      generalize hAA : (adr true (pack gs)).toArray = A at hl hst hsz HY HK ⊢
      have HAA := Lib.hid hAA
      clear hAA
      go_wp2_with fail
      refine bodyPost_ret_by (results_agg_tmp rfl _ (b := n) (k := 17) (cs := A) (Tryd.isAgg24 _) (Tryd.sizeOf24 _) rfl (load_block HY.out.1 HK.out.2 (fun j v hv => by simpa using hv))) rfl ?_
      exact ⟨by rw [HAA.out]; rfl, HY.out.2⟩
    · obtain ⟨g, hg⟩ : ∃ g, gs[i]? = some g := ⟨_, List.getElem?_eq_getElem (by rw [HS.out.2.1]; omega)⟩
      have hg6 : g < 65536 := HS.out.2.2 g (List.mem_of_getElem? hg)
      have c1 : wr.cell? ⟨ab, ao + i, none⟩ = some (.int .u16 g) := by
        obtain ⟨b', o', he, hc⟩ := (((HS.out.1.frNo HN.out.2.1).fr HR.out.1 (fun ad ha hk => by
          have hlt := HS.out.1.lt (by rw [nums_length, HS.out.2.1]; omega)
          cases ha
          have := HN.out.1
          simp at hlt hk
          omega)) i _ (nums_get hg))
        cases he
        exact hc
      have hL := part_length HS.out.2.1 (show i ≤ 8 by omega)
      obtain ⟨z1, hz1⟩ : ∃ z, (part gs i)[2 * i]? = some z := ⟨_, List.getElem?_eq_getElem (by rw [hL]; omega)⟩
      obtain ⟨z2, hz2⟩ : ∃ z, (part gs i)[2 * i + 1]? = some z := ⟨_, List.getElem?_eq_getElem (by rw [hL]; omega)⟩
      have d1 := adr_cell HR.out.2 hz1
      have d2 := adr_cell HR.out.2 hz2
      have f1 := frozen_of_row wr (n + 1) (1 + 2 * i) _ _ HR.out.2
      have f2 := frozen_of_row wr (n + 1) (1 + (2 * i + 1)) _ _ HR.out.2
      have q1 : (0 : Int) ≤ (i : Int) := by omega
      have q2 : (i : Int) < 8 := by omega
      have q3 : (0 : Int) ≤ 2 * (i : Int) := by omega
      have q4 : 2 * (i : Int) < 16 := by omega
      have q5 : (0 : Int) ≤ 2 * (i : Int) + 1 := by omega
      have q6 : 2 * (i : Int) + 1 < 16 := by omega
      clear hL
      go_wp2_with fail
      go_roundg (8 - i)
      case measure => exact hig
      case rel =>
        have e1 := adr_set (i := 2 * i) (x := g / 256) HR.out.2
        have e2 := adr_set (i := 2 * i + 1) (x := g % 256) e1
        rw [part_step HS.out.2.1 hg] at e2
        refine ⟨i + 1, by go_num, by omega, by omega, ?_, ?_⟩
        · exact HR.out.1.trans ((Fr.setCell (fun k => k = n + 1) _ _ _ rfl).trans (Fr.setCell (fun k => k = n + 1) _ _ _ rfl))
        · simpa using e2

/-- V6, whatever the groups. -/
theorem v6_any (a : Option Addr) (n c : Nat) (gs : List Nat) (w : World) (h : At w a (nums .u16 gs)) (hn : gs.length = n) (hb : ∀ g ∈ gs, g < 65536) :
    Calls Tryd.prog 25 #[.slice a n c] w fun e w' => e = .returned (.tuple #[.agg (adr (decide (n = 8)) (v6Of gs)).toArray, .bool (decide (n = 8))]) ∧ Fr No w w' := by
  by_cases h8 : n = 8
  · subst h8
    cases a with
    | none =>
      obtain ⟨b, o, he, _⟩ := h 0 (.int .u16 gs[0]) (nums_get (List.getElem?_eq_getElem (by omega)))
      cases he
    | some ad =>
      refine (v6_good ad c gs w h hn hb).mono ?_
      rintro e w' ⟨rfl, hf⟩
      exact ⟨by rw [v6Of, if_pos hn]; rfl, hf⟩
  · refine (v6_bad a n c w h8).mono ?_
    rintro e w' ⟨rfl, hf⟩
    exact ⟨by rw [v6Of, if_neg (by omega), decide_eq_false h8], hf⟩
end Go.Proofs.YtdnfmilihfkhmaaDoor
