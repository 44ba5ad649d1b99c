/-
  CONTRACTS of V6 and groupsOf, over this seat's translation: what each call returns.
  Conditions: the groups lie in memory; the argument is an address.
  What Parse gives, on lists of bytes; no walk.
  Conditions: as each theorem says.
  What the reference's parsers give, on lists of bytes, and that it is what Parse gives; no walk.
  Conditions: as each theorem says.
-/
import Derived.Test.YtmhnailcmlomiaaGreatDoorA
import Derived.Lib.IndexMore
import Derived.Lib.ParseIntB
namespace Go.Proofs.YtmhnailcmlomiaaGreatDoor
open Go.ChangeShapes Go.WideShapes Go.ChangeAt Go.RowKit
set_option linter.unusedVariables false

def zeros : List Nat := [0, 0, 0, 0, 0, 0, 0, 0, 0, 0, 0, 0, 0, 0, 0, 0]
/-- The bytes of groups. -/
def pack (gs : List Nat) : List Nat := gs.flatMap fun g => [g / 256, g % 256]
/-- What V6 gives. -/
def v6Of (gs : List Nat) : List Nat := if gs.length = 8 then pack gs else zeros

theorem pack_length (gs : List Nat) : (pack gs).length = 2 * gs.length := by
  induction gs with
  | nil => rfl
  | cons g gs ih => simp [pack] at ih ⊢; omega
theorem pack_bytes {gs : List Nat} (h : ∀ g ∈ gs, g < 65536) : ∀ x ∈ pack gs, x < 256 := by
  intro x hx
  obtain ⟨g, hg, hx⟩ := List.mem_flatMap.1 hx
  have := h g hg
  simp at hx
  omega
theorem zeros_bytes : Bytes zeros := ⟨rfl, fun x hx => by simp [zeros] at hx; omega⟩
theorem v6_bytes {gs : List Nat} (h : ∀ g ∈ gs, g < 65536) : Bytes (v6Of gs) := by
  unfold v6Of
  split
  · rename_i h8
    exact ⟨by rw [pack_length, h8], pack_bytes h⟩
  · exact zeros_bytes

/-- The bytes when the first i groups have been written. -/
def part (gs : List Nat) (i : Nat) : List Nat := pack (gs.take i) ++ List.replicate (16 - 2 * i) 0
theorem part_length {gs : List Nat} {i : Nat} (h8 : gs.length = 8) (hi : i ≤ 8) : (part gs i).length = 16 := by
  rw [part, List.length_append, pack_length, List.length_take, List.length_replicate]; omega
theorem part_step {gs : List Nat} {i g : Nat} (h8 : gs.length = 8) (hg : gs[i]? = some g) : ((part gs i).set (2 * i) (g / 256)).set (2 * i + 1) (g % 256) = part gs (i + 1) := by
  have hi : i < 8 := by have := (List.getElem?_eq_some_iff.1 hg).1; omega
  have hl : (pack (gs.take i)).length = 2 * i := by rw [pack_length, List.length_take]; omega
  have e : List.replicate (16 - 2 * i) 0 = 0 :: 0 :: List.replicate (16 - 2 * (i + 1)) 0 := by
    rw [show 16 - 2 * i = (16 - 2 * (i + 1)) + 1 + 1 by omega, List.replicate_succ, List.replicate_succ]
  have ht : gs.take (i + 1) = gs.take i ++ [g] := by
    rw [List.take_add_one, hg]; rfl
  have hp : pack (gs.take i ++ [g]) = pack (gs.take i) ++ [g / 256, g % 256] := by simp [pack]
  rw [part, part, e, ht, hp]
  rw [List.set_append_right _ _ (by omega), hl, Nat.sub_self, List.set_cons_zero, List.set_append_right _ _ (by omega), hl, show 2 * i + 1 - 2 * i = 1 by omega]
  simp
theorem part_zero (gs : List Nat) : part gs 0 = zeros := rfl
theorem part_all {gs : List Nat} (h8 : gs.length = 8) : part gs 8 = pack gs := by
  rw [part, List.take_of_length_le (by omega)]; simp

theorem adr_set {w : World} {m i x : Nat} {b : Bool} {L : List Nat} {t : TypeId} (h : w.heap[m]? = some (.cells (adr b L).toArray t (0, 0))) : (w.setCell ⟨m, 1 + i, none⟩ (.int .u8 x)).heap[m]? = some (.cells (adr b (L.set i x)).toArray t (0, 0)) := by
  rw [heap_setCell_same w m (1 + i) _ _ _ h]
  congr 2
  apply Array.ext'
  rw [Nat.add_comm]
  simp [adr, nums, List.map_set]
theorem adr_cell {w : World} {m i x : Nat} {b : Bool} {L : List Nat} {t : TypeId} {fr : Nat × Nat} (h : w.heap[m]? = some (.cells (adr b L).toArray t fr)) (hx : L[i]? = some x) : w.cell? ⟨m, 1 + i, none⟩ = some (.int .u8 x) := by
  rw [cell_of_row _ _ _ _ _ _ h]
  simpa using adr_get hx

theorem zero30 : ∀ w, (zeroValue 30).run Tryz.prog w = .ok (.agg (adr false zeros).toArray) w := by
  intro w
  kernel_rfl

set_option maxHeartbeats 2000000 in
set_option maxRecDepth 100000 in
theorem v6_bad (a : Option Addr) (n c : Nat) (w : World) (hn : n ≠ 8) :
    Calls Tryz.prog 110 #[.slice a n c] w fun e w' => e = .returned (.tuple #[.agg (adr false zeros).toArray, .bool false]) ∧ Fr No w w' := by
  have hn' : ¬ (n : Int) = 8 := by omega
  have v24 := zero30
  have hz : (adr false zeros).toArray.size = 17 := rfl
  obtain ⟨y, hst, hyb, hyf⟩ := store_all (P := PD) (adr false zeros) (heap_alloc_new w (.cells (adr false zeros).toArray 30)) rfl (adr_one _ _)
  have HY : Hid (y.heap[w.heap.size]? = some (.cells (adr false zeros).toArray 30 (0, 0)) ∧ Fr No w y) := ⟨hyb, (Fr.alloc No w (.cells (adr false zeros).toArray 30)).ofNew hyf fun k hk => .inr (by omega)⟩
  have hl0 : (adr false zeros).toArray.toList = adr false zeros := rfl
  obtain ⟨Z, hZ⟩ : ∃ Z : Array Value, (adr false zeros).toArray = Z := ⟨_, rfl⟩
  rw [← hl0, hZ] at hst
  rw [hZ] at v24 HY hz ⊢
  clear hyb hyf hl0
  have HZ := Lib.hid hZ
  clear hZ
  go_enter Tryz.func110, Tryz.ntmps110
  have t3 := Tryz.underlying3
  have u3 := Tryz.runUnderlying3
  have g3 := Tryz.isAgg3
  have z3 := Tryz.sizeOf3
  have t4 := Tryz.underlying4
  have u4 := Tryz.runUnderlying4
  have g4 := Tryz.isAgg4
  have z4 := Tryz.sizeOf4
  have t28 := Tryz.underlying28
  have u28 := Tryz.runUnderlying28
  have g28 := Tryz.isAgg28
  have z28 := Tryz.sizeOf28
  have t30 := Tryz.underlying30
  have u30 := Tryz.runUnderlying30
  have g30 := Tryz.isAgg30
  have z30 := Tryz.sizeOf30
  have t89 := Tryz.underlying89
  have u89 := Tryz.runUnderlying89
  have g89 := Tryz.isAgg89
  have z89 := Tryz.sizeOf89
  have mixed : Tryz.prog.follows .mixedOrders = true := by kernel_rfl
  obtain ⟨k24, hk24⟩ : ∃ k, k = 17 := ⟨_, rfl⟩
  rw [← hk24] at z30
  have nk24 : ¬ k24 = 0 := by omega
  have HK30 := Lib.hid hk24
  have hP : Tryz.prog = PD := rfl
  rw [hP] at t3 u3 g3 z3 t4 u4 g4 z4 t28 u28 g28 z28 t30 u30 g30 z30 t89 u89 g89 z89 mixed v24 ⊢
  have HP := Lib.hid hP.symm
  clear hP hk24
  rw [← HK30.out] at hz
  go_wp2_with fail
  refine bodyPost_ret_by (results_agg_tmp rfl _ (b := w.heap.size) (k := 17) (cs := Z) (Tryz.isAgg30 _) (Tryz.sizeOf30 _) rfl (load_block HY.out.1 (by rw [← HK30.out]; exact hz) (fun j v hv => by simpa using hv))) rfl ?_
  exact ⟨rfl, HY.out.2⟩

theorem zero95 : ∀ w, (zeroValue 95).run Tryz.prog w = .ok (.agg (nums .u16 [0, 0, 0, 0, 0, 0, 0, 0]).toArray) w := by
  intro w
  kernel_rfl

set_option maxHeartbeats 2000000 in
set_option maxRecDepth 100000 in
theorem v6_good (ad : Addr) (c : Nat) (gs : List Nat) (w : World) (h : At w (some ad) (nums .u16 gs)) (h8 : gs.length = 8) (hb : ∀ g ∈ gs, g < 65536) :
    Calls Tryz.prog 110 #[.slice (some ad) 8 c] w fun e w' => e = .returned (.tuple #[.agg (adr true (pack gs)).toArray, .bool true]) ∧ Fr No w w' := by
  obtain ⟨ab, ao, rfl⟩ : ∃ ab ao, ad = ⟨ab, ao, none⟩ := by
    obtain ⟨b, o, he, _⟩ := h 0 (.int .u16 gs[0]) (nums_get (List.getElem?_eq_getElem (by omega)))
    exact ⟨b, o, Option.some.inj he⟩
  have v24 : ∀ w, (zeroValue 30).run Tryz.prog w = .ok (.agg #[.bool false, .int .u8 0, .int .u8 0, .int .u8 0, .int .u8 0, .int .u8 0, .int .u8 0, .int .u8 0, .int .u8 0, .int .u8 0, .int .u8 0, .int .u8 0, .int .u8 0, .int .u8 0, .int .u8 0, .int .u8 0, .int .u8 0]) w := zero30
  have HS := Lib.hid (And.intro h (And.intro h8 hb))
  clear h h8 hb
  go_enter Tryz.func110, Tryz.ntmps110
  have t3 := Tryz.underlying3
  have u3 := Tryz.runUnderlying3
  have g3 := Tryz.isAgg3
  have z3 := Tryz.sizeOf3
  have t4 := Tryz.underlying4
  have u4 := Tryz.runUnderlying4
  have g4 := Tryz.isAgg4
  have z4 := Tryz.sizeOf4
  have t5 := Tryz.underlying5
  have u5 := Tryz.runUnderlying5
  have g5 := Tryz.isAgg5
  have z5 := Tryz.sizeOf5
  have t28 := Tryz.underlying28
  have u28 := Tryz.runUnderlying28
  have g28 := Tryz.isAgg28
  have z28 := Tryz.sizeOf28
  have t30 := Tryz.underlying30
  have u30 := Tryz.runUnderlying30
  have g30 := Tryz.isAgg30
  have z30 := Tryz.sizeOf30
  have t89 := Tryz.underlying89
  have u89 := Tryz.runUnderlying89
  have g89 := Tryz.isAgg89
  have z89 := Tryz.sizeOf89
  have t93 := Tryz.underlying93
  have u93 := Tryz.runUnderlying93
  have g93 := Tryz.isAgg93
  have z93 := Tryz.sizeOf93
  have t69 := Tryz.underlying69
  have u69 := Tryz.runUnderlying69
  have g69 := Tryz.isAgg69
  have z69 := Tryz.sizeOf69
  have mixed : Tryz.prog.follows .mixedOrders = true := by kernel_rfl
  have hP : Tryz.prog = PD := rfl
  rw [hP] at t3 u3 g3 z3 t4 u4 g4 z4 t5 u5 g5 z5 t28 u28 g28 z28 t30 u30 g30 z30 t89 u89 g89 z89 t93 u93 g93 z93 t69 u69 g69 z69 mixed v24 ⊢
  have HP := Lib.hid hP.symm
  clear hP 
  go_wp2_with fail
  obtain ⟨b1, b2, hF⟩ := alloc2 w (.cells #[.bool false, .int .u8 0, .int .u8 0, .int .u8 0, .int .u8 0, .int .u8 0, .int .u8 0, .int .u8 0, .int .u8 0, .int .u8 0, .int .u8 0, .int .u8 0, .int .u8 0, .int .u8 0, .int .u8 0, .int .u8 0, .int .u8 0] 30) (.cells #[.bool true, .int .u8 0, .int .u8 0, .int .u8 0, .int .u8 0, .int .u8 0, .int .u8 0, .int .u8 0, .int .u8 0, .int .u8 0, .int .u8 0, .int .u8 0, .int .u8 0, .int .u8 0, .int .u8 0, .int .u8 0, .int .u8 0] 30)
  generalize (w.alloc (.cells #[.bool false, .int .u8 0, .int .u8 0, .int .u8 0, .int .u8 0, .int .u8 0, .int .u8 0, .int .u8 0, .int .u8 0, .int .u8 0, .int .u8 0, .int .u8 0, .int .u8 0, .int .u8 0, .int .u8 0, .int .u8 0, .int .u8 0] 30)).alloc (.cells #[.bool true, .int .u8 0, .int .u8 0, .int .u8 0, .int .u8 0, .int .u8 0, .int .u8 0, .int .u8 0, .int .u8 0, .int .u8 0, .int .u8 0, .int .u8 0, .int .u8 0, .int .u8 0, .int .u8 0, .int .u8 0, .int .u8 0] 30) = w2 at b1 b2 hF ⊢
  obtain ⟨n, hn⟩ : ∃ n, w.heap.size = n := ⟨_, rfl⟩
  rw [hn] at b1 b2 ⊢
  have HN : Hid (w.heap.size = n ∧ Fr No w w2 ∧ w2.heap[n]? = some (.cells (adr false zeros).toArray 30 (0, 0)) ∧ w2.heap[n + 1]? = some (.cells (adr true zeros).toArray 30 (0, 0))) := ⟨hn, hF, b1, b2⟩
  clear hn hF b1 b2 v24
  go_loopg [14] 9 (fun g s wr => ∃ i : Nat, s = .int .i64 i ∧ i ≤ 8 ∧ 8 - i < g ∧ Hid (Fr (fun k => k = n + 1) w2 wr ∧ wr.heap[n + 1]? = some (.cells (adr true (part gs i)).toArray 30 (0, 0))))
  case atStart => exact ⟨0, by go_num, by omega, by omega, Fr.refl _ _, HN.out.2.2.2⟩
  case round =>
    obtain ⟨i, rfl, hi8, hig, HR⟩ := hrel
    by_cases hi : i = 8
    · subst hi
      obtain ⟨k24, hk⟩ : ∃ k, k = 17 := ⟨_, rfl⟩
      rw [← hk] at z30
      have hR := HR.out
      rw [part_all HS.out.2.1] at hR
      have hp : Bytes (pack gs) := ⟨by rw [pack_length, HS.out.2.1], pack_bytes HS.out.2.2⟩
      have hone := adr_one true (pack gs)
      have hA : (adr true (pack gs)).toArray.size = 17 := by rw [List.size_toArray, adr_length, hp.1]
      have hbn : wr.heap[n]? = some (.cells (adr false zeros).toArray 30 (0, 0)) := (hR.1.block n (Array.getElem?_eq_some_iff.1 HN.out.2.2.1).1 (by omega)).trans HN.out.2.2.1
      have hl : Sem.run PD (loadCellsFrom ⟨n + 1, 0, none⟩ 0 k24 #[]) wr = .ok (adr true (pack gs)).toArray wr := by rw [hk]; exact load_block hR.2 hA (fun j v hv => by simpa using hv)
      obtain ⟨y, hst, hyb, hyf⟩ := store_all (P := PD) (adr true (pack gs)).toArray.toList hbn (by rw [Array.length_toList, hA]; rfl) hone
      have hsz : (adr true (pack gs)).toArray.size = k24 := by rw [hk]; exact hA
      have HY : Hid (y.heap[n]? = some (.cells (adr true (pack gs)).toArray 30 (0, 0)) ∧ Fr No w y) := by
        refine ⟨by simpa using hyb, ?_⟩
        refine (HN.out.2.1.ofNew hR.1 fun k hk => .inr (by rw [HN.out.1, hk]; omega)).ofNew hyf fun k hk => .inr (by rw [HN.out.1, hk]; omega)
      have nk : ¬ k24 = 0 := by omega
      have HK := Lib.hid (And.intro hk hA)
      clear hk hA hR hp hone hbn hyb hyf HR
      generalize hAA : (adr true (pack gs)).toArray = A at hl hst hsz HY HK ⊢
      have HAA := Lib.hid hAA
      clear hAA
      go_wp2_with fail
      refine bodyPost_ret_by (results_agg_tmp rfl _ (b := n) (k := 17) (cs := A) (Tryz.isAgg30 _) (Tryz.sizeOf30 _) rfl (load_block HY.out.1 HK.out.2 (fun j v hv => by simpa using hv))) rfl ?_
      exact ⟨by rw [HAA.out]; rfl, HY.out.2⟩
    · obtain ⟨g, hg⟩ : ∃ g, gs[i]? = some g := ⟨_, List.getElem?_eq_getElem (by rw [HS.out.2.1]; omega)⟩
      have hg6 : g < 65536 := HS.out.2.2 g (List.mem_of_getElem? hg)
      have c1 : wr.cell? ⟨ab, ao + i, none⟩ = some (.int .u16 g) := by
        obtain ⟨b', o', he, hc⟩ := (((HS.out.1.frNo HN.out.2.1).fr HR.out.1 (fun ad ha hk => by
          have hlt := HS.out.1.lt (by rw [nums_length, HS.out.2.1]; omega)
          cases ha
          have := HN.out.1
          simp at hlt hk
          omega)) i _ (nums_get hg))
        cases he
        exact hc
      have hL := part_length HS.out.2.1 (show i ≤ 8 by omega)
      obtain ⟨z1, hz1⟩ : ∃ z, (part gs i)[2 * i]? = some z := ⟨_, List.getElem?_eq_getElem (by rw [hL]; omega)⟩
      obtain ⟨z2, hz2⟩ : ∃ z, (part gs i)[2 * i + 1]? = some z := ⟨_, List.getElem?_eq_getElem (by rw [hL]; omega)⟩
      have d1 := adr_cell HR.out.2 hz1
      have d2 := adr_cell HR.out.2 hz2
      have f1 := frozen_of_row wr (n + 1) (1 + 2 * i) _ _ HR.out.2
      have f2 := frozen_of_row wr (n + 1) (1 + (2 * i + 1)) _ _ HR.out.2
      have q1 : (0 : Int) ≤ (i : Int) := by omega
      have q2 : (i : Int) < 8 := by omega
      have q3 : (0 : Int) ≤ 2 * (i : Int) := by omega
      have q4 : 2 * (i : Int) < 16 := by omega
      have q5 : (0 : Int) ≤ 2 * (i : Int) + 1 := by omega
      have q6 : 2 * (i : Int) + 1 < 16 := by omega
      clear hL
      go_wp2_with fail
      go_roundg (8 - i)
      case measure => exact hig
      case rel =>
        have e1 := adr_set (i := 2 * i) (x := g / 256) HR.out.2
        have e2 := adr_set (i := 2 * i + 1) (x := g % 256) e1
        rw [part_step HS.out.2.1 hg] at e2
        refine ⟨i + 1, by go_num, by omega, by omega, ?_, ?_⟩
        · exact HR.out.1.trans ((Fr.setCell (fun k => k = n + 1) _ _ _ rfl).trans (Fr.setCell (fun k => k = n + 1) _ _ _ rfl))
        · simpa using e2

/-- V6, whatever the groups. -/
theorem v6_any (a : Option Addr) (n c : Nat) (gs : List Nat) (w : World) (h : At w a (nums .u16 gs)) (hn : gs.length = n) (hb : ∀ g ∈ gs, g < 65536) :
    Calls Tryz.prog 110 #[.slice a n c] w fun e w' => e = .returned (.tuple #[.agg (adr (decide (n = 8)) (v6Of gs)).toArray, .bool (decide (n = 8))]) ∧ Fr No w w' := by
  by_cases h8 : n = 8
  · subst h8
    cases a with
    | none =>
      obtain ⟨b, o, he, _⟩ := h 0 (.int .u16 gs[0]) (nums_get (List.getElem?_eq_getElem (by omega)))
      cases he
    | some ad =>
      refine (v6_good ad c gs w h hn hb).mono ?_
      rintro e w' ⟨rfl, hf⟩
      exact ⟨by rw [v6Of, if_pos hn]; rfl, hf⟩
  · refine (v6_bad a n c w h8).mono ?_
    rintro e w' ⟨rfl, hf⟩
    exact ⟨by rw [v6Of, if_neg (by omega), decide_eq_false h8], hf⟩
end Go.Proofs.YtmhnailcmlomiaaGreatDoor
namespace Go.Proofs.YtmhnailcmlomiaaGreatDoor
open Go.ChangeShapes Go.WideShapes Go.ChangeAt Go.RowKit
set_option linter.unusedVariables false

/-- Bytes as a string. -/
def bs (l : List UInt8) : ByteArray := ⟨l.toArray⟩
theorem bs_list (l : List UInt8) : (bs l).data.toList = l := rfl
theorem bs_size (l : List UInt8) : (bs l).size = l.length := rfl
theorem bs_of (s : ByteArray) : s = bs s.data.toList := by
  obtain ⟨⟨l⟩⟩ := s
  rfl
theorem bs_inj {l m : List UInt8} (h : bs l = bs m) : l = m := by
  have := congrArg (fun s : ByteArray => s.data.toList) h
  simpa [bs] using this

/-- The text before and behind the first c. -/
def cutc (c : UInt8) : List UInt8 → Option (List UInt8 × List UInt8)
  | [] => none
  | x :: l => if x = c then some ([], l) else (cutc c l).map fun p => (x :: p.1, p.2)
/-- The text before and behind the first two colons. -/
def cut2 : List UInt8 → Option (List UInt8 × List UInt8)
  | [] => none
  | x :: l => if [58, 58].isPrefixOf (x :: l) then some ([], l.drop 1) else (cut2 l).map fun p => (x :: p.1, p.2)

/-- What Cut hands back. -/
def cutR (l : List UInt8) : Option (List UInt8 × List UInt8) → List UInt8 × List UInt8 × Bool
  | none => (l, [], false)
  | some (a, b) => (a, b, true)

theorem cut_cons (x : UInt8) (l sep : List UInt8) : Lib.cut (x :: l) sep = if sep.isPrefixOf (x :: l) then ([], (x :: l).drop sep.length, true) else if (Lib.cut l sep).2.2 then (x :: (Lib.cut l sep).1, (Lib.cut l sep).2.1, true) else (x :: l, [], false) := by
  have h1 := Lib.index_ge l sep
  unfold Lib.cut
  rw [Lib.index]
  by_cases hp : sep.isPrefixOf (x :: l) = true
  · simp [hp]
  · rw [if_neg hp, if_neg hp]
    by_cases hm : Lib.index l sep = -1
    · simp [hm]
    · have h0 : 0 ≤ Lib.index l sep := by omega
      have e : (Lib.index l sep + 1).toNat = (Lib.index l sep).toNat + 1 := by omega
      have e2 : (Lib.index l sep).toNat + 1 + sep.length = ((Lib.index l sep).toNat + sep.length) + 1 := by omega
      have hne : (Lib.index l sep == -1) = false := by simpa using hm
      simp only [hne, h0, if_true, Bool.false_eq_true, if_false]
      rw [if_pos (by omega), e, e2]
      simp

theorem cut_one (c : UInt8) : ∀ l : List UInt8, Lib.cut l [c] = cutR l (cutc c l)
  | [] => by simp [Lib.cut, Lib.index, cutc, cutR]
  | x :: l => by
    rw [cut_cons, cut_one c l]
    by_cases h : x = c
    · subst h
      simp [cutc, cutR, List.isPrefixOf]
    · have hp : [c].isPrefixOf (x :: l) = false := by simp [List.isPrefixOf]; exact fun e => h e.symm
      rw [hp, cutc, if_neg h]
      cases hc : cutc c l with
      | none => simp [cutR]
      | some p => simp [cutR]

theorem cut_two : ∀ l : List UInt8, Lib.cut l [58, 58] = cutR l (cut2 l)
  | [] => by simp [Lib.cut, Lib.index, cut2, cutR]
  | x :: l => by
    rw [cut_cons, cut_two l, cut2]
    by_cases hp : [58, 58].isPrefixOf (x :: l) = true
    · simp [hp, cutR]
    · rw [if_neg hp, if_neg hp]
      cases hc : cut2 l with
      | none => simp [cutR]
      | some p => simp [cutR]

theorem contains_one (c : UInt8) : ∀ l : List UInt8, decide (0 ≤ Lib.indexByte l c) = l.contains c
  | [] => by simp [Lib.indexByte]
  | x :: l => by
    have ih := contains_one c l
    have h1 := Lib.indexByte_ge l c
    rw [Lib.indexByte]
    by_cases h : x = c
    · subst h; simp
    · have hx : (x == c) = false := by simpa using h
      rw [hx, List.contains_cons, show (c == x) = false by simpa using fun e : c = x => h e.symm, ← ih]
      by_cases hm : Lib.indexByte l c = -1
      · simp [hm]
      · have hne : (Lib.indexByte l c == -1) = false := by simpa using hm
        rw [hne]
        simp
        omega

/-- The number from 0 to 255 that decimal digits without a leading zero spell. -/
def decV (l : List UInt8) : Option Nat :=
  if 1 < l.length ∧ l.head? = some 48 then none else match Lib.parseUintB 8 l with
    | .ok u => some u
    | _ => none

def hexDig (c : UInt8) : Option Nat :=
  if 48 ≤ c.toNat ∧ c.toNat ≤ 57 then some (c.toNat - 48) else if 97 ≤ c.toNat ∧ c.toNat ≤ 102 then some (c.toNat - 87) else if 65 ≤ c.toNat ∧ c.toNat ≤ 70 then some (c.toNat - 55) else none
def hexGo : Nat → List UInt8 → Option Nat
  | acc, [] => some acc
  | acc, c :: r => match hexDig c with
    | some d => hexGo (acc * 16 + d) r
    | none => none
/-- The number that one to four hexadecimal digits spell. -/
def hexV (l : List UInt8) : Option Nat := if l = [] ∨ 4 < l.length then none else hexGo 0 l

/-- k + 1 numbers with dots between them. -/
def par : Nat → List UInt8 → Option (List Nat)
  | 0, l => match cutc 46 l with
    | some _ => none
    | none => (decV l).map fun x => [x]
  | k + 1, l => match cutc 46 l with
    | none => none
    | some (a, b) => match decV a, par k b with
      | some x, some r => some (x :: r)
      | _, _ => none

theorem par_length : ∀ (k : Nat) (l : List UInt8) (xs : List Nat), par k l = some xs → xs.length = k + 1
  | 0, l, xs, h => by
    rw [par] at h
    split at h
    · cases h
    · obtain ⟨x, -, rfl⟩ := Option.map_eq_some_iff.1 h
      rfl
  | k + 1, l, xs, h => by
    rw [par] at h
    split at h
    · cases h
    · split at h
      · rename_i hr
        cases h
        simp [par_length k _ _ hr]
      · cases h

/-- The two groups that four bytes make. -/
def two : List Nat → List Nat
  | [a, b, c, d] => [a * 256 + b, c * 256 + d]
  | _ => []

/-- The parts between the occurrences of c. -/
def splitc (c : UInt8) : List UInt8 → List (List UInt8)
  | [] => [[]]
  | x :: l => if x = c then [] :: splitc c l else match splitc c l with
    | [] => [[x]]
    | h :: t => (x :: h) :: t

theorem split_cut (c : UInt8) : ∀ l : List UInt8, splitc c l = match cutc c l with
    | none => [l]
    | some (a, b) => a :: splitc c b
  | [] => rfl
  | x :: l => by
    have ih := split_cut c l
    rw [splitc, cutc]
    by_cases h : x = c
    · rw [if_pos h, if_pos h]
    · rw [if_neg h, if_neg h, ih]
      cases cutc c l with
      | none => rfl
      | some p => rfl
theorem split_ne (c : UInt8) (l : List UInt8) : splitc c l ≠ [] := by
  rw [split_cut]
  split <;> simp

/-- The groups that the parts make. -/
def grpGo (last : Bool) : List (List UInt8) → Option (List Nat)
  | [] => some []
  | [p] => match (if last then par 3 p else none) with
    | some xs => some (two xs)
    | none => (hexV p).map fun g => [g]
  | p :: q :: r => match hexV p, grpGo last (q :: r) with
    | some g, some gs => some (g :: gs)
    | _, _ => none
/-- The groups of a text. -/
def grpP (last : Bool) (l : List UInt8) : Option (List Nat) := if l = [] then some [] else grpGo last (splitc 58 l)

/-- Eight groups, or none. -/
def eight : Option (List Nat) → Option (List Nat)
  | some gs => if gs.length = 8 then some gs else none
  | none => none
/-- Groups before and behind the two colons. -/
def fill : Option (List Nat) → Option (List Nat) → Option (List Nat)
  | some g, some h => if g.length + h.length ≤ 7 then some (g ++ (List.replicate (8 - g.length - h.length) 0 ++ h)) else none
  | _, _ => none
def parse6 (l : List UInt8) : Option (List Nat) := match cut2 l with
  | none => eight (grpP true l)
  | some (a, b) => fill (grpP false a) (grpP true b)

/-- What Parse gives: the family and the bytes, or nothing. -/
def parseS (l : List UInt8) : Option (Bool × List Nat) := if l.contains 58 then (parse6 l).map fun gs => (true, pack gs) else (par 3 l).map fun xs => (false, xs ++ [0, 0, 0, 0, 0, 0, 0, 0, 0, 0, 0, 0])

def resB : Option (Bool × List Nat) → Bool
  | some (b, _) => b
  | none => false
def resX : Option (Bool × List Nat) → List Nat
  | some (_, xs) => xs
  | none => zeros

theorem cutc_length {c : UInt8} : ∀ {l a b : List UInt8}, cutc c l = some (a, b) → a.length + b.length + 1 = l.length
  | [], a, b, h => by cases h
  | x :: l, a, b, h => by
    rw [cutc] at h
    split at h
    · cases h; simp
    · obtain ⟨p, hp, he⟩ := Option.map_eq_some_iff.1 h
      cases he
      have := cutc_length (a := p.1) (b := p.2) hp
      simp; omega
theorem cut2_length : ∀ {l a b : List UInt8}, cut2 l = some (a, b) → a.length + b.length + 2 = l.length
  | [], a, b, h => by cases h
  | x :: l, a, b, h => by
    rw [cut2] at h
    split at h
    · rename_i hp
      cases h
      cases l with
      | nil => simp [List.isPrefixOf] at hp
      | cons y l => simp
    · obtain ⟨p, hp, he⟩ := Option.map_eq_some_iff.1 h
      cases he
      have := cut2_length (a := p.1) (b := p.2) hp
      simp; omega

theorem parseUintM_le (M : Nat) : ∀ (l : List UInt8) (acc u : Nat), acc ≤ M → Lib.parseUintM M acc l = .ok u → u ≤ M
  | [], acc, u, h, e => by rw [Lib.parseUintM] at e; cases e; exact h
  | c :: r, acc, u, h, e => by
    rw [Lib.parseUintM] at e
    split at e
    · split at e
      · cases e
      · split at e
        · cases e
        · rename_i h3
          exact parseUintM_le M r _ u (by omega) e
    · cases e
theorem decV_lt {l : List UInt8} {x : Nat} (h : decV l = some x) : x < 256 := by
  unfold decV at h
  split at h
  · cases h
  · split at h
    · rename_i u hu
      cases h
      unfold Lib.parseUintB at hu
      split at hu
      · cases hu
      · have := parseUintM_le _ _ _ _ (by omega) hu
        omega
    · cases h
theorem par_lt : ∀ (k : Nat) (l : List UInt8) (xs : List Nat), par k l = some xs → ∀ x ∈ xs, x < 256
  | 0, l, xs, h => by
    rw [par] at h
    split at h
    · cases h
    · obtain ⟨x, hx, rfl⟩ := Option.map_eq_some_iff.1 h
      intro y hy
      simp at hy
      subst hy
      exact decV_lt hx
  | k + 1, l, xs, h => by
    rw [par] at h
    split at h
    · cases h
    · split at h
      · rename_i hd hr
        cases h
        intro y hy
        rcases List.mem_cons.1 hy with rfl | hy
        · exact decV_lt hd
        · exact par_lt k _ _ hr y hy
      · cases h
theorem hexDig_lt {c : UInt8} {d : Nat} (h : hexDig c = some d) : d < 16 := by
  unfold hexDig at h
  split at h
  · cases h; omega
  · split at h
    · cases h; omega
    · split at h
      · cases h; omega
      · cases h
theorem hexGo_lt : ∀ (l : List UInt8) (acc x : Nat), hexGo acc l = some x → x < (acc + 1) * 16 ^ l.length
  | [], acc, x, h => by rw [hexGo] at h; cases h; simp
  | c :: r, acc, x, h => by
    rw [hexGo] at h
    split at h
    · rename_i d hd
      have h1 := hexGo_lt r _ x h
      have h2 := hexDig_lt hd
      refine Nat.lt_of_lt_of_le h1 ?_
      rw [List.length_cons, Nat.pow_succ, Nat.mul_comm (16 ^ r.length) 16, ← Nat.mul_assoc]
      exact Nat.mul_le_mul_right _ (by omega)
    · cases h
theorem hexV_lt {l : List UInt8} {x : Nat} (h : hexV l = some x) : x < 65536 := by
  unfold hexV at h
  split at h
  · cases h
  · have h1 := hexGo_lt l 0 x h
    have : 16 ^ l.length ≤ 16 ^ 4 := Nat.pow_le_pow_right (by decide) (by omega)
    have e : (16 : Nat) ^ 4 = 65536 := by decide
    omega
theorem two_lt {xs : List Nat} (h : ∀ x ∈ xs, x < 256) : ∀ g ∈ two xs, g < 65536 := by
  intro g hg
  unfold two at hg
  split at hg
  · rename_i a b c d
    have ha := h a (by simp); have hb := h b (by simp); have hc := h c (by simp); have hd := h d (by simp)
    simp at hg
    omega
  · cases hg
theorem grpGo_lt (last : Bool) : ∀ (ps : List (List UInt8)) (gs : List Nat), grpGo last ps = some gs → ∀ g ∈ gs, g < 65536
  | [], gs, h => by rw [grpGo] at h; cases h; intro g hg; cases hg
  | [p], gs, h => by
    rw [grpGo] at h
    split at h
    · rename_i xs hx
      cases h
      cases last with
      | false => cases hx
      | true => exact two_lt (par_lt 3 p xs hx)
    · obtain ⟨x, hx, rfl⟩ := Option.map_eq_some_iff.1 h
      intro g hg
      simp at hg
      subst hg
      exact hexV_lt hx
  | p :: q :: r, gs, h => by
    rw [grpGo] at h
    split at h
    · rename_i hd hr
      cases h
      intro g hg
      rcases List.mem_cons.1 hg with rfl | hg
      · exact hexV_lt hd
      · exact grpGo_lt last (q :: r) _ hr g hg
    · cases h
theorem grpP_lt {last : Bool} {l : List UInt8} {gs : List Nat} (h : grpP last l = some gs) : ∀ g ∈ gs, g < 65536 := by
  unfold grpP at h
  split at h
  · cases h; intro g hg; cases hg
  · exact grpGo_lt last _ _ h
end Go.Proofs.YtmhnailcmlomiaaGreatDoor
namespace Go.Proofs.YtmhnailcmlomiaaGreatDoor
open Go.ChangeShapes Go.WideShapes Go.ChangeAt Go.RowKit
set_option linter.unusedVariables false

/-- The number that decimal digits spell. -/
def digGo : Nat → List UInt8 → Option Nat
  | acc, [] => some acc
  | acc, c :: r => if 48 ≤ c.toNat ∧ c.toNat ≤ 57 then digGo (10 * acc + (c.toNat - 48)) r else none
/-- The number from 0 to a bound that decimal digits without a leading zero spell. -/
def decR (most : Nat) (l : List UInt8) : Option Nat :=
  if l = [] ∨ 6 < l.length ∨ (l.head? = some 48 ∧ 1 < l.length) then none else match digGo 0 l with
    | some n => if n ≤ most then some n else none
    | none => none
/-- Digits, as long as the number is within the bound. -/
def limGo (M : Nat) : Nat → List UInt8 → Option Nat
  | acc, [] => some acc
  | acc, c :: r => if 48 ≤ c.toNat ∧ c.toNat ≤ 57 then (if M < 10 * acc + (c.toNat - 48) then none else limGo M (10 * acc + (c.toNat - 48)) r) else none

theorem digGo_step {l : List UInt8} {i acc : Nat} {c : UInt8} (h : l[i]? = some c) : digGo acc (l.drop i) = if 48 ≤ c.toNat ∧ c.toNat ≤ 57 then digGo (10 * acc + (c.toNat - 48)) (l.drop (i + 1)) else none := by
  obtain ⟨h1, e1⟩ := List.getElem?_eq_some_iff.1 h
  rw [List.drop_eq_getElem_cons h1, e1]
  rfl
theorem limGo_step {M : Nat} {l : List UInt8} {i acc : Nat} {c : UInt8} (h : l[i]? = some c) : limGo M acc (l.drop i) = if 48 ≤ c.toNat ∧ c.toNat ≤ 57 then (if M < 10 * acc + (c.toNat - 48) then none else limGo M (10 * acc + (c.toNat - 48)) (l.drop (i + 1))) else none := by
  obtain ⟨h1, e1⟩ := List.getElem?_eq_some_iff.1 h
  rw [List.drop_eq_getElem_cons h1, e1]
  rfl

theorem digGo_le : ∀ (l : List UInt8) (acc u : Nat), digGo acc l = some u → acc * 10 ^ l.length ≤ u
  | [], acc, u, h => by rw [digGo] at h; cases h; simp
  | c :: r, acc, u, h => by
    rw [digGo] at h
    split at h
    · have := digGo_le r _ u h
      refine Nat.le_trans ?_ this
      rw [List.length_cons, Nat.pow_succ, Nat.mul_comm (10 ^ r.length) 10, ← Nat.mul_assoc]
      exact Nat.mul_le_mul_right _ (by omega)
    · cases h
theorem digGo_acc {l : List UInt8} {acc u : Nat} (h : digGo acc l = some u) : acc ≤ u := by
  have h1 := digGo_le l acc u h
  have h2 : 1 ≤ 10 ^ l.length := Nat.one_le_pow _ _ (by decide)
  have : acc * 1 ≤ acc * 10 ^ l.length := Nat.mul_le_mul_left _ h2
  omega
theorem digGo_lt : ∀ (l : List UInt8) (acc u : Nat), digGo acc l = some u → u < (acc + 1) * 10 ^ l.length
  | [], acc, u, h => by rw [digGo] at h; cases h; simp
  | c :: r, acc, u, h => by
    rw [digGo] at h
    split at h
    · have := digGo_lt r _ u h
      refine Nat.lt_of_lt_of_le this ?_
      rw [List.length_cons, Nat.pow_succ, Nat.mul_comm (10 ^ r.length) 10, ← Nat.mul_assoc]
      exact Nat.mul_le_mul_right _ (by omega)
    · cases h

theorem limGo_dig (M : Nat) : ∀ (l : List UInt8) (acc : Nat), acc ≤ M → limGo M acc l = match digGo acc l with
    | some n => if n ≤ M then some n else none
    | none => none
  | [], acc, h => by simp [limGo, digGo, h]
  | c :: r, acc, h => by
    rw [limGo, digGo]
    by_cases hd : 48 ≤ c.toNat ∧ c.toNat ≤ 57
    · rw [if_pos hd, if_pos hd]
      by_cases hm : M < 10 * acc + (c.toNat - 48)
      · rw [if_pos hm]
        cases hg : digGo (10 * acc + (c.toNat - 48)) r with
        | none => rfl
        | some u =>
          have := digGo_acc hg
          show none = if u ≤ M then some u else none
          rw [if_neg (by omega)]
      · rw [if_neg hm]
        exact limGo_dig M r _ (by omega)
    · rw [if_neg hd, if_neg hd]

/-- Many digits without a leading zero make a great number. -/
theorem digGo_big {l : List UInt8} {u : Nat} (hl : 6 < l.length) (h0 : l.head? ≠ some 48) (h : digGo 0 l = some u) : 1000000 ≤ u := by
  cases l with
  | nil => simp at hl
  | cons c r =>
    rw [digGo] at h
    split at h
    · rename_i hd
      have h1 := digGo_le r _ u h
      have hc : c.toNat ≠ 48 := fun e => h0 (by rw [List.head?_cons]; congr 1; rw [← UInt8.toNat_inj]; exact e)
      have h2 : 10 ^ 6 ≤ 10 ^ r.length := Nat.pow_le_pow_right (by decide) (by simp at hl; omega)
      have h3 : 1 * 10 ^ 6 ≤ (10 * 0 + (c.toNat - 48)) * 10 ^ r.length := Nat.mul_le_mul (by omega) h2
      have e : (10 : Nat) ^ 6 = 1000000 := by decide
      omega
    · cases h

/-- The bound on the length says nothing of its own. -/
theorem decR_lim {M : Nat} (hM : M < 1000000) (l : List UInt8) : decR M l = if l = [] ∨ (l.head? = some 48 ∧ 1 < l.length) then none else limGo M 0 l := by
  rw [limGo_dig M l 0 (by omega), decR]
  by_cases h1 : l = [] ∨ (l.head? = some 48 ∧ 1 < l.length)
  · rw [if_pos h1, if_pos (by rcases h1 with h1 | h1; exact .inl h1; exact .inr (.inr h1))]
  · rw [if_neg h1]
    by_cases h2 : 6 < l.length
    · rw [if_pos (.inr (.inl h2))]
      cases hg : digGo 0 l with
      | none => rfl
      | some u =>
        have := digGo_big h2 (fun e => h1 (.inr ⟨e, by omega⟩)) hg
        show none = if u ≤ M then some u else none
        rw [if_neg (by omega)]
    · rw [if_neg (by rintro (h | h | h); exact h1 (.inl h); exact h2 h; exact h1 (.inr h))]

theorem uintM_lim (M : Nat) (hM : M < 1000000) : ∀ (l : List UInt8) (acc : Nat), acc ≤ M → (match Lib.parseUintM M acc l with
    | .ok u => some u
    | _ => none) = limGo M acc l
  | [], acc, h => rfl
  | c :: r, acc, h => by
    rw [Lib.parseUintM, limGo]
    by_cases hd : 48 ≤ c.toNat ∧ c.toNat ≤ 57
    · rw [if_pos hd, if_pos hd, if_neg (by omega), Nat.mul_comm acc 10]
      by_cases hm : M < 10 * acc + (c.toNat - 48)
      · rw [if_pos hm, if_pos hm]
      · rw [if_neg hm, if_neg hm]
        exact uintM_lim M hM r _ (by omega)
    · rw [if_neg hd, if_neg hd]

theorem decV_decR (l : List UInt8) : decV l = decR 255 l := by
  rw [decR_lim (by omega), decV, Lib.parseUintB]
  by_cases h1 : l = []
  · subst h1; rfl
  · rw [if_neg h1]
    by_cases h2 : 1 < l.length ∧ l.head? = some 48
    · rw [if_pos h2, if_pos (.inr ⟨h2.2, h2.1⟩)]
    · rw [if_neg h2, if_neg (by rintro (h | h); exact h1 h; exact h2 ⟨h.2, h.1⟩)]
      exact uintM_lim 255 (by omega) l 0 (by omega)

theorem decR_le {M : Nat} {l : List UInt8} {x : Nat} (h : decR M l = some x) : x ≤ M := by
  unfold decR at h
  split at h
  · cases h
  · split at h
    · split at h
      · cases h; assumption
      · cases h
    · cases h

theorem digGo_all : ∀ {l : List UInt8} {acc u : Nat}, digGo acc l = some u → ∀ c ∈ l, 48 ≤ c.toNat ∧ c.toNat ≤ 57
  | [], acc, u, h => by intro c hc; cases hc
  | c :: r, acc, u, h => by
    rw [digGo] at h
    split at h
    · rename_i hd
      intro x hx
      rcases List.mem_cons.1 hx with rfl | hx
      · exact hd
      · exact digGo_all h x hx
    · cases h
theorem decR_all {M : Nat} {l : List UInt8} {x : Nat} (h : decR M l = some x) : ∀ c ∈ l, 48 ≤ c.toNat ∧ c.toNat ≤ 57 := by
  unfold decR at h
  split at h
  · cases h
  · split at h
    · rename_i n hn
      exact digGo_all hn
    · cases h

/-- The port that digits spell. -/
def portV (l : List UInt8) : Option Nat := if l = [] ∨ l.head? = some 48 then none else limGo 65535 0 l
theorem limGo_pos {M : Nat} {l : List UInt8} {u : Nat} (h1 : l ≠ []) (h0 : l.head? ≠ some 48) (h : limGo M 0 l = some u) : 1 ≤ u := by
  rw [limGo_dig M l 0 (by omega)] at h
  split at h
  · rename_i n hn
    split at h
    · cases h
      cases l with
      | nil => exact absurd rfl h1
      | cons c r =>
        rw [digGo] at hn
        split at hn
        · have hc : c.toNat ≠ 48 := fun e => h0 (by rw [List.head?_cons]; congr 1; rw [← UInt8.toNat_inj]; exact e)
          have := digGo_acc hn
          omega
        · cases hn
    · cases h
  · cases h
theorem portV_decR (l : List UInt8) : portV l = match decR 65535 l with
    | some n => if n < 1 then none else some n
    | none => none := by
  rw [decR_lim (by omega), portV]
  by_cases h1 : l = []
  · subst h1; rfl
  · by_cases h0 : l.head? = some 48
    · rw [if_pos (.inr h0)]
      by_cases h2 : 1 < l.length
      · rw [if_pos (.inr ⟨h0, h2⟩)]
      · cases l with
        | nil => exact absurd rfl h1
        | cons c r =>
          cases r with
          | nil =>
            cases h0
            decide
          | cons d r => simp at h2
    · rw [if_neg (by rintro (h | h); exact h1 h; exact h0 h), if_neg (by rintro (h | h); exact h1 h; exact h0 h.1)]
      cases hg : limGo 65535 0 l with
      | none => rfl
      | some u =>
        have := limGo_pos h1 h0 hg
        show some u = if u < 1 then none else some u
        rw [if_neg (by omega)]

/-! ### parts -/

theorem cutc_eq {c : UInt8} : ∀ {l a b : List UInt8}, cutc c l = some (a, b) → l = a ++ c :: b
  | [], a, b, h => by cases h
  | x :: l, a, b, h => by
    rw [cutc] at h
    split at h
    · rename_i hx
      cases h
      rw [hx]; rfl
    · obtain ⟨p, hp, he⟩ := Option.map_eq_some_iff.1 h
      cases he
      rw [cutc_eq (a := p.1) (b := p.2) hp]
      rfl
theorem cutc_none {c : UInt8} : ∀ {l : List UInt8}, (∀ x ∈ l, x ≠ c) → cutc c l = none
  | [], h => rfl
  | x :: l, h => by
    rw [cutc, if_neg (h x (by simp)), cutc_none (l := l) (fun y hy => h y (List.mem_cons_of_mem _ hy))]
    rfl
theorem cutc_at {c : UInt8} : ∀ {a b : List UInt8}, (∀ x ∈ a, x ≠ c) → cutc c (a ++ c :: b) = some (a, b)
  | [], b, h => by rw [List.nil_append, cutc, if_pos rfl]
  | x :: a, b, h => by
    rw [List.cons_append, cutc, if_neg (h x (by simp)), cutc_at (a := a) (fun y hy => h y (List.mem_cons_of_mem _ hy))]
    rfl
theorem splitc_none {c : UInt8} {l : List UInt8} (h : ∀ x ∈ l, x ≠ c) : splitc c l = [l] := by rw [split_cut, cutc_none h]
theorem splitc_at {c : UInt8} {a b : List UInt8} (h : ∀ x ∈ a, x ≠ c) : splitc c (a ++ c :: b) = a :: splitc c b := by rw [split_cut, cutc_at h]
theorem splitc_len (c : UInt8) (l : List UInt8) : (splitc c l).length ≤ l.length + 1 := by
  induction l with
  | nil => simp [splitc]
  | cons x l ih =>
    rw [splitc]
    split
    · simp; omega
    · split
      · simp
      · rename_i h t e; rw [e] at ih; simp at ih ⊢; omega
theorem splitc_mem {c : UInt8} : ∀ {l p : List UInt8}, p ∈ splitc c l → p.length ≤ l.length := by
  intro l
  induction l with
  | nil => intro p hp; simp [splitc] at hp; simp [hp]
  | cons x l ih =>
    intro p hp
    rw [splitc] at hp
    split at hp
    · rcases List.mem_cons.1 hp with rfl | hp
      · simp
      · have := ih hp; simp; omega
    · split at hp
      · simp at hp; simp [hp]
      · rename_i h t e
        rcases List.mem_cons.1 hp with rfl | hp
        · have := ih (p := h) (by rw [e]; simp); simp; omega
        · have := ih (p := p) (by rw [e]; exact List.mem_cons_of_mem _ hp); simp; omega

/-- The reference's walk over the string: the parts found so far, the rest from the last one on. -/
theorem split_hit {c : UInt8} {l : List UInt8} {f i : Nat} {done : List (List UInt8)} (hs : splitc c l = done ++ splitc c (l.drop f)) (hf : f ≤ i) (hno : ∀ j x, f ≤ j → j < i → l[j]? = some x → x ≠ c) (hc : l[i]? = some c) : splitc c l = (done ++ [(l.drop f).take (i - f)]) ++ splitc c (l.drop (i + 1)) := by
  obtain ⟨h1, e1⟩ := List.getElem?_eq_some_iff.1 hc
  have e : l.drop f = (l.drop f).take (i - f) ++ c :: l.drop (i + 1) := by
    conv => lhs; rw [← List.take_append_drop (i - f) (l.drop f)]
    rw [List.drop_drop, show f + (i - f) = i by omega, List.drop_eq_getElem_cons h1, e1]
  rw [hs, e, splitc_at]
  · rw [← e]; simp
  · intro x hx
    obtain ⟨k, hk, hke⟩ := List.mem_iff_getElem.1 hx
    simp at hk
    refine hno (f + k) x (by omega) (by omega) ?_
    rw [List.getElem_take, List.getElem_drop] at hke
    rw [List.getElem?_eq_getElem (by omega), hke]
theorem split_end {c : UInt8} {l : List UInt8} {f : Nat} {done : List (List UInt8)} (hs : splitc c l = done ++ splitc c (l.drop f)) (hno : ∀ j x, f ≤ j → j < l.length → l[j]? = some x → x ≠ c) : splitc c l = done ++ [l.drop f] := by
  rw [hs, splitc_none]
  intro x hx
  obtain ⟨k, hk, hke⟩ := List.mem_iff_getElem.1 hx
  simp at hk
  refine hno (f + k) x (by omega) (by omega) ?_
  rw [List.getElem_drop] at hke
  rw [List.getElem?_eq_getElem (by omega), hke]

/-- All the parts' numbers. -/
def allV : List (List UInt8) → Option (List Nat)
  | [] => some []
  | p :: r => match decV p, allV r with
    | some x, some xs => some (x :: xs)
    | _, _ => none
theorem par_split : ∀ (k : Nat) (l : List UInt8), par k l = if (splitc 46 l).length = k + 1 then allV (splitc 46 l) else none
  | 0, l => by
    rw [par, split_cut]
    cases cutc 46 l with
    | none => simp [allV]; cases decV l <;> rfl
    | some p =>
      have := split_ne 46 p.2
      have h0 : (splitc 46 p.2).length ≠ 0 := fun h => this (List.length_eq_zero_iff.1 h)
      simp [h0]
  | k + 1, l => by
    rw [par, split_cut]
    cases cutc 46 l with
    | none => simp
    | some p =>
      have ih := par_split k p.2
      simp only [List.length_cons, Nat.add_right_cancel_iff, ih]
      by_cases h : (splitc 46 p.2).length = k + 1
      · simp only [if_pos h, allV]
        all_goals (cases decV p.1 <;> cases allV (splitc 46 p.2) <;> rfl)
      · simp only [if_neg h]
        cases decV p.1 <;> rfl
theorem allV_length : ∀ {ps : List (List UInt8)} {xs : List Nat}, allV ps = some xs → xs.length = ps.length
  | [], xs, h => by rw [allV] at h; cases h; rfl
  | p :: r, xs, h => by
    rw [allV] at h
    split at h
    · rename_i hr
      cases h
      simp [allV_length hr]
    · cases h
theorem allV_snoc : ∀ {ps : List (List UInt8)} {p : List UInt8}, allV (ps ++ [p]) = match allV ps, decV p with
    | some xs, some x => some (xs ++ [x])
    | _, _ => none
  | [], p => by rw [List.nil_append, allV, allV]; cases decV p <;> rfl
  | q :: r, p => by
    rw [List.cons_append, allV, allV, allV_snoc (ps := r)]
    cases decV q <;> cases allV r <;> cases decV p <;> rfl
theorem allV_none : ∀ {ps : List (List UInt8)} {p : List UInt8}, p ∈ ps → decV p = none → allV ps = none
  | [], p, h, _ => by cases h
  | q :: r, p, h, e => by
    rw [allV]
    rcases List.mem_cons.1 h with rfl | h
    · rw [e]
    · rw [allV_none h e]
      cases decV q <;> rfl
theorem allV_mem : ∀ {ps : List (List UInt8)} {xs : List Nat}, allV ps = some xs → ∀ p ∈ ps, ∃ x, decV p = some x := by
  intro ps xs h p hp
  cases hd : decV p with
  | some x => exact ⟨x, rfl⟩
  | none => rw [allV_none hp hd] at h; cases h

/-- A part has all that the text has, but for the sign. -/
theorem split_has {c x : UInt8} (hx : x ≠ c) : ∀ {l : List UInt8}, x ∈ l → ∃ p ∈ splitc c l, x ∈ p := by
  intro l
  induction l with
  | nil => intro h; cases h
  | cons y l ih =>
    intro h
    rw [splitc]
    split
    · rename_i hy
      rcases List.mem_cons.1 h with rfl | h
      · exact absurd hy hx
      · obtain ⟨p, hp, hxp⟩ := ih h
        exact ⟨p, List.mem_cons_of_mem _ hp, hxp⟩
    · rcases List.mem_cons.1 h with rfl | h
      · cases hs : splitc c l with
        | nil => exact ⟨[x], by simp, by simp⟩
        | cons q t => exact ⟨x :: q, by simp, by simp⟩
      · obtain ⟨p, hp, hxp⟩ := ih h
        cases hs : splitc c l with
        | nil => rw [hs] at hp; cases hp
        | cons q t =>
          rw [hs] at hp
          rcases List.mem_cons.1 hp with rfl | hp
          · exact ⟨y :: p, by simp, List.mem_cons_of_mem _ hxp⟩
          · exact ⟨p, List.mem_cons_of_mem _ hp, hxp⟩
/-- Four numbers with dots have no colon. -/
theorem par_colon {k : Nat} {l : List UInt8} {xs : List Nat} (h : par k l = some xs) : l.contains 58 = false := by
  cases hc : l.contains 58 with
  | false => rfl
  | true =>
    have hm : (58 : UInt8) ∈ l := by simpa using hc
    rw [par_split] at h
    split at h
    · obtain ⟨p, hp, hxp⟩ := split_has (c := 46) (by decide) hm
      obtain ⟨x, hx⟩ := allV_mem h p hp
      rw [decV_decR] at hx
      have := decR_all hx 58 hxp
      revert this
      decide
    · cases h
end Go.Proofs.YtmhnailcmlomiaaGreatDoor
