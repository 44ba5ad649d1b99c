/-
  CONTRACTS of the functions of package tick and of its reference, over this seat's translation: what each call returns for every argument.
  Conditions: integer arguments lie in their kind's range; a slice argument is nil or leads to a row of cells.
-/
import Derived.Test.YtajcbljojfcceaaRows
import Derived.WalkKit
import Derived.ProofKit
import Derived.OpenShut
import Derived.Below
import Derived.Lib.Hide
namespace Go.Proofs.Ytajcbljojfcceaa
open Go.ChangeShapes Go.WideShapes Go.ChangeAt Go.RowKit
set_option linter.unusedVariables false

def addT (a b : Int) : Int := if 18446744073709551615 - a < b then 18446744073709551615 else a + b
def subT (a b : Int) : Int := if a < b then 0 else a - b
def minT (m t : Int) : Int := if t < m then t else m
def minL (l : List Int) : Int := l.foldl minT 18446744073709551615

theorem addT_bd {a b : Int} (ha : 0 ≤ a) (hb : 0 ≤ b) : 0 ≤ addT a b ∧ addT a b ≤ 18446744073709551615 := by unfold addT; split <;> omega
theorem subT_bd {a b : Int} (ha : a ≤ 18446744073709551615) (hb : 0 ≤ b) : 0 ≤ subT a b ∧ subT a b ≤ 18446744073709551615 := by unfold subT; split <;> omega

theorem ret_int {k : IntKind} {a b : Int} (h : a = b) : Ending.returned (.int k a) = .returned (.int k b) := by rw [h]

theorem tickAdd_any (a b : Int) (w : World) (ha : 0 ≤ a ∧ a ≤ 18446744073709551615) (hb : 0 ≤ b ∧ b ≤ 18446744073709551615) :
    Calls Try.prog 8 #[.int .u64 a, .int .u64 b] w fun e w' => e = .returned (.int .u64 (addT a b)) ∧ w = w' := by
  obtain ⟨ha0, ha1⟩ := ha
  obtain ⟨hb0, hb1⟩ := hb
  by_cases h : 18446744073709551615 - a < b
  · go_enter Try.func8, Try.ntmps8
    go_wp2
    go_ret
    exact ⟨ret_int (by unfold addT; rw [if_pos (by omega)]), rfl⟩
  · go_enter Try.func8, Try.ntmps8
    go_wp2
    go_ret
    exact ⟨ret_int (by unfold addT; rw [if_neg (by omega)]), rfl⟩

theorem refAdd_any (a b : Int) (w : World) (ha : 0 ≤ a ∧ a ≤ 18446744073709551615) (hb : 0 ≤ b ∧ b ≤ 18446744073709551615) :
    Calls Try.prog 9 #[.int .u64 a, .int .u64 b] w fun e w' => e = .returned (.int .u64 (addT a b)) ∧ w = w' := by
  obtain ⟨ha0, ha1⟩ := ha
  obtain ⟨hb0, hb1⟩ := hb
  by_cases h : 18446744073709551615 - a < b
  · go_enter Try.func9, Try.ntmps9
    go_wp2
    go_ret
    exact ⟨ret_int (by unfold addT; rw [if_pos (by omega)]), rfl⟩
  · go_enter Try.func9, Try.ntmps9
    go_wp2
    go_ret
    exact ⟨ret_int (by unfold addT; rw [if_neg (by omega)]), rfl⟩

theorem tickSub_any (a b : Int) (w : World) (ha : 0 ≤ a ∧ a ≤ 18446744073709551615) (hb : 0 ≤ b ∧ b ≤ 18446744073709551615) :
    Calls Try.prog 10 #[.int .u64 a, .int .u64 b] w fun e w' => e = .returned (.int .u64 (subT a b)) ∧ w = w' := by
  obtain ⟨ha0, ha1⟩ := ha
  obtain ⟨hb0, hb1⟩ := hb
  by_cases h : a < b
  · go_enter Try.func10, Try.ntmps10
    go_wp2
    go_ret
    exact ⟨ret_int (by unfold subT; rw [if_pos (by omega)]), rfl⟩
  · go_enter Try.func10, Try.ntmps10
    go_wp2
    go_ret
    exact ⟨ret_int (by unfold subT; rw [if_neg (by omega)]), rfl⟩

theorem refSub_any (a b : Int) (w : World) (ha : 0 ≤ a ∧ a ≤ 18446744073709551615) (hb : 0 ≤ b ∧ b ≤ 18446744073709551615) :
    Calls Try.prog 11 #[.int .u64 a, .int .u64 b] w fun e w' => e = .returned (.int .u64 (subT a b)) ∧ w = w' := by
  obtain ⟨ha0, ha1⟩ := ha
  obtain ⟨hb0, hb1⟩ := hb
  by_cases h : a < b
  · go_enter Try.func11, Try.ntmps11
    go_wp2
    go_ret
    exact ⟨ret_int (by unfold subT; rw [if_pos (by omega)]), rfl⟩
  · go_enter Try.func11, Try.ntmps11
    go_wp2
    go_ret
    exact ⟨ret_int (by unfold subT; rw [if_neg (by omega)]), rfl⟩

theorem window_zero (a : Int) (w : World) :
    Calls Try.prog 16 #[.int .u64 a, .int .u64 0] w fun e w' => e = .returned (.int .u64 0) ∧ w = w' := by
  go_enter Try.func16, Try.ntmps16
  go_wp2
  go_ret
  exact ⟨rfl, rfl⟩

theorem window_pos (a b : Int) (w : World) (ha : 0 ≤ a ∧ a ≤ 18446744073709551615) (hb : 1 ≤ b) :
    Calls Try.prog 16 #[.int .u64 a, .int .u64 b] w fun e w' => e = .returned (.int .u64 (a / b)) ∧ w = w' := by
  obtain ⟨ha0, ha1⟩ := ha
  go_enter Try.func16, Try.ntmps16
  go_wp2
  go_ret
  exact ⟨rfl, rfl⟩

/-- What a contract is told of a slice of ticks: cell i of the row to which it leads holds number i of 'zs', for each i below its length; of an empty slice nothing is asked. -/
def Lies (w : World) (a : Option Addr) (len : Nat) (zs : List Int) : Prop :=
  len = zs.length ∧ len ≤ 9223372036854775807 ∧ (∀ n ∈ zs, 0 ≤ n ∧ n ≤ 18446744073709551615) ∧
  ∀ i, i < len → ∃ b off, a = some ⟨b, off, none⟩ ∧ w.cell? ⟨b, off + i, none⟩ = some (.int .u64 (zs[i]?.getD 0))

theorem cell_lt {w : World} {p : Addr} {v : Value} (h : w.cell? p = some v) : p.block < w.heap.size := by
  rcases Nat.lt_or_ge p.block w.heap.size with h' | h'
  · exact h'
  · simp [World.cell?, Array.getElem?_eq_none h'] at h

theorem Lies.below {w w' : World} {a : Option Addr} {len : Nat} {zs : List Int} (h : Lies w a len zs) (hb : Below w.heap.size w w') : Lies w' a len zs := by
  obtain ⟨h1, h2, h3, h4⟩ := h
  refine ⟨h1, h2, h3, fun i hi => ?_⟩
  obtain ⟨b, off, ha, hc⟩ := h4 i hi
  exact ⟨b, off, ha, by rw [hb.cell (p := ⟨b, off + i, none⟩) (cell_lt hc)]; exact hc⟩

theorem take_snoc (zs : List Int) (k : Nat) (h : k < zs.length) : zs.take (k + 1) = zs.take k ++ [zs[k]?.getD 0] := by
  rw [List.take_succ_eq_append_getElem h]; simp [h]

theorem minL_snoc (l : List Int) (t : Int) : minL (l ++ [t]) = minT (minL l) t := by simp [minL, List.foldl_append]

theorem minT_pos {m t : Int} (h : t < m) : minT m t = t := by unfold minT; rw [if_pos h]
theorem minT_neg {m t : Int} (h : m ≤ t) : minT m t = m := by unfold minT; rw [if_neg (by omega)]
theorem minT_bd {m t : Int} (hm : 0 ≤ m ∧ m ≤ 18446744073709551615) (ht : 0 ≤ t) : 0 ≤ minT m t ∧ minT m t ≤ 18446744073709551615 := by unfold minT; split <;> omega

theorem foldl_bd (l : List Int) : ∀ m : Int, (0 ≤ m ∧ m ≤ 18446744073709551615) → (∀ n ∈ l, 0 ≤ n ∧ n ≤ 18446744073709551615) → 0 ≤ l.foldl minT m ∧ l.foldl minT m ≤ 18446744073709551615 := by
  induction l with
  | nil => intro m hm _; exact hm
  | cons x l ih =>
    intro m hm hl
    exact ih _ (minT_bd hm (hl x (by simp)).1) (fun n hn => hl n (by simp [hn]))
theorem minL_bd (l : List Int) (h : ∀ n ∈ l, 0 ≤ n ∧ n ≤ 18446744073709551615) : 0 ≤ minL l ∧ minL l ≤ 18446744073709551615 := foldl_bd l _ (by omega) h

set_option maxHeartbeats 400000 in
theorem tickMin_any (a : Option Addr) (len cap : Nat) (zs : List Int) (w : World) (h : Lies w a len zs) :
    Calls Try.prog 12 #[.slice a len cap] w fun e w' => e = .returned (.int .u64 (minL zs)) ∧ w = w' := by
  obtain ⟨hl, hm, hw, hc⟩ := h
  have HC := Lib.hid hc
  have HL := Lib.hid hl
  clear hc hl hw
  go_enter Try.func12, Try.ntmps12
  go_wp2
  go_loop [3, 8] (fun m i => ∃ k : Nat, k ≤ len ∧ i = .int .i64 k ∧ m = .int .u64 (minL (zs.take k))) (fun _ i => len - (intOf i).toNat)
  case atStart => exact ⟨0, Nat.zero_le _, rfl, rfl⟩
  case round =>
    obtain ⟨k, hk, rfl, rfl⟩ := hrel
    by_cases hlt : k < len
    · obtain ⟨b, off, rfl, hcell⟩ := HC.out k hlt
      have HS := Lib.hid (show minL (zs.take (k + 1)) = minT (minL (zs.take k)) (zs[k]?.getD 0) by rw [take_snoc zs k (by have := HL.out; omega), minL_snoc])
      by_cases ht : zs[k]?.getD 0 < minL (zs.take k)
      · go_wp2
        go_round
        case rel => exact ⟨k + 1, by omega, by go_num, by rw [HS.out, minT_pos ht]⟩
        case measure => simp [intOf]; omega
      · go_wp2
        go_round
        case rel => exact ⟨k + 1, by omega, by go_num, by rw [HS.out, minT_neg (by omega)]⟩
        case measure => simp [intOf]; omega
    · go_wp2
      go_ret
      exact ⟨ret_int (by rw [List.take_of_length_le (by have := HL.out; omega)]), rfl⟩

set_option maxHeartbeats 400000 in
theorem refMin_any (a : Option Addr) (len cap : Nat) (zs : List Int) (w : World) (h : Lies w a len zs) :
    Calls Try.prog 13 #[.slice a len cap] w fun e w' => e = .returned (.int .u64 (minL zs)) ∧ w = w' := by
  obtain ⟨hl, hm, hw, hc⟩ := h
  have HC := Lib.hid hc
  have HL := Lib.hid hl
  clear hc hl hw
  go_enter Try.func13, Try.ntmps13
  go_wp2
  go_loop [3, 4] (fun m i => ∃ k : Nat, k ≤ len ∧ i = .int .i64 k ∧ m = .int .u64 (minL (zs.take k))) (fun _ i => len - (intOf i).toNat)
  case atStart => exact ⟨0, Nat.zero_le _, rfl, rfl⟩
  case round =>
    obtain ⟨k, hk, rfl, rfl⟩ := hrel
    by_cases hlt : k < len
    · obtain ⟨b, off, rfl, hcell⟩ := HC.out k hlt
      have HS := Lib.hid (show minL (zs.take (k + 1)) = minT (minL (zs.take k)) (zs[k]?.getD 0) by rw [take_snoc zs k (by have := HL.out; omega), minL_snoc])
      by_cases ht : zs[k]?.getD 0 < minL (zs.take k)
      · go_wp2
        go_round
        case rel => exact ⟨k + 1, by omega, by go_num, by rw [HS.out, minT_pos ht]⟩
        case measure => simp [intOf]; omega
      · go_wp2
        go_round
        case rel => exact ⟨k + 1, by omega, by go_num, by rw [HS.out, minT_neg (by omega)]⟩
        case measure => simp [intOf]; omega
    · go_wp2
      go_ret
      exact ⟨ret_int (by rw [List.take_of_length_le (by have := HL.out; omega)]), rfl⟩

theorem lies_two (w : World) (x y : Int) (c : Nat) (hx : 0 ≤ x ∧ x ≤ 18446744073709551615) (hy : 0 ≤ y ∧ y ≤ 18446744073709551615)
    (h0 : w.cell? ⟨c, 0, none⟩ = some (.int .u64 x)) (h1 : w.cell? ⟨c, 1, none⟩ = some (.int .u64 y)) : Lies w (some ⟨c, 0, none⟩) 2 [x, y] := by
  refine ⟨rfl, by omega, fun n hn => ?_, fun i hi => ⟨c, 0, rfl, ?_⟩⟩
  · simp at hn; rcases hn with rfl | rfl
    · exact hx
    · exact hy
  · match i, hi with
    | 0, _ => simpa using h0
    | 1, _ => simpa using h1

theorem lies_nil (w : World) (a : Option Addr) : Lies w a 0 [] := ⟨rfl, by omega, by simp, fun i hi => absurd hi (Nat.not_lt_zero _)⟩

def dlT (now span : Int) (zs : List Int) : Int := minL [addT now span, minL zs]

set_option maxHeartbeats 400000 in
theorem tickDeadline_any (now span : Int) (a : Option Addr) (len cap : Nat) (zs : List Int) (w : World) (hn : 0 ≤ now ∧ now ≤ 18446744073709551615) (hs : 0 ≤ span ∧ span ≤ 18446744073709551615) (h : Lies w a len zs) :
    Calls Try.prog 14 #[.int .u64 now, .int .u64 span, .slice a len cap] w fun e w' => e = .returned (.int .u64 (dlT now span zs)) ∧ Below w.heap.size w w' := by
  have HL := Lib.hid h
  have HA := Lib.hid (addT_bd hn.1 hs.1)
  have HM := Lib.hid (minL_bd zs h.2.2.1)
  clear h
  go_enter Try.func14, Try.ntmps14
  go_wp2_with fail
  refine (tickAdd_any now span _ hn hs).mono ?_
  rintro e w' ⟨rfl, rfl⟩
  go_wp2_with fail
  refine (tickMin_any a len cap zs _ HL.out).mono ?_
  rintro e w' ⟨rfl, rfl⟩
  go_wp2_with fail
  refine (tickMin_any _ 2 2 [addT now span, minL zs] _ (lies_two _ _ _ _ HA.out HM.out ?_ ?_)).mono ?_
  · simp
  · simp
  rintro e w' ⟨rfl, rfl⟩
  go_wp2
  go_ret
  exact ⟨rfl, (Below.refl _ _).alloc (Nat.le_refl _) _⟩

theorem minL_two {x y : Int} (hx : x ≤ 18446744073709551615) : minL [x, y] = minT x y := by
  show minT (minT 18446744073709551615 x) y = _
  by_cases h : x < 18446744073709551615
  · rw [minT_pos h]
  · rw [minT_neg (m := 18446744073709551615) (t := x) (by omega)]; congr 1; omega

set_option maxHeartbeats 400000 in
theorem refDeadline_any (now span : Int) (a : Option Addr) (len cap : Nat) (zs : List Int) (w : World) (hn : 0 ≤ now ∧ now ≤ 18446744073709551615) (hs : 0 ≤ span ∧ span ≤ 18446744073709551615) (h : Lies w a len zs) :
    Calls Try.prog 15 #[.int .u64 now, .int .u64 span, .slice a len cap] w fun e w' => e = .returned (.int .u64 (dlT now span zs)) ∧ w = w' := by
  have HL := Lib.hid h
  have HA := Lib.hid (addT_bd hn.1 hs.1)
  clear h
  by_cases hm : minL zs < addT now span
  · go_enter Try.func15, Try.ntmps15
    go_wp2_with fail
    refine (refAdd_any now span _ hn hs).mono ?_
    rintro e w' ⟨rfl, rfl⟩
    go_wp2_with fail
    refine (refMin_any a len cap zs _ HL.out).mono ?_
    rintro e w' ⟨rfl, rfl⟩
    go_wp2
    go_ret
    exact ⟨ret_int (by unfold dlT; rw [minL_two HA.out.2, minT_pos hm]), rfl⟩
  · go_enter Try.func15, Try.ntmps15
    go_wp2_with fail
    refine (refAdd_any now span _ hn hs).mono ?_
    rintro e w' ⟨rfl, rfl⟩
    go_wp2_with fail
    refine (refMin_any a len cap zs _ HL.out).mono ?_
    rintro e w' ⟨rfl, rfl⟩
    go_wp2
    go_ret
    exact ⟨ret_int (by unfold dlT; rw [minL_two HA.out.2, minT_neg (by omega)]), rfl⟩

theorem awake1 : addT 18446744073709551615 1 = 18446744073709551615 := by unfold addT; rw [if_pos (by omega)]
theorem awake2 : dlT 5 10 [12, 20] = 12 := by
  have h1 : addT 5 10 = 15 := by unfold addT; rw [if_neg (by omega)]; omega
  have h2 : minL [12, 20] = 12 := by rw [minL_two (by omega), minT_neg (by omega)]
  unfold dlT
  rw [h1, h2, minL_two (by omega), minT_pos (by omega)]
theorem awake3 : subT 9 4 = 5 := by unfold subT; rw [if_neg (by omega)]; omega

set_option maxHeartbeats 800000 in
theorem awake_any (w : World) : Calls Try.prog 7 #[] w fun e w' => e = .returned (.bool true) ∧ Below w.heap.size w w' := by
  go_enter Try.func7, Try.ntmps7
  go_wp2_with fail
  refine (tickAdd_any _ _ _ (by omega) (by omega)).mono ?_
  rintro e w' ⟨rfl, rfl⟩
  rw [awake1]
  go_wp2_with fail
  refine (tickDeadline_any 5 10 _ 2 2 [12, 20] _ (by omega) (by omega) (lies_two _ _ _ _ (by omega) (by omega) ?_ ?_)).mono ?_
  · simp
  · simp
  rintro e w' ⟨rfl, hb⟩
  rw [awake2]
  have HB := Lib.hid hb
  clear hb
  go_wp2_with fail
  refine (window_pos 25 10 _ (by omega) (by omega)).mono ?_
  rintro e w'' ⟨rfl, rfl⟩
  go_wp2_with fail
  refine (tickSub_any 9 4 _ (by omega) (by omega)).mono ?_
  rintro e w'' ⟨rfl, rfl⟩
  rw [awake3]
  go_wp2_with fail
  refine (tickMin_any none 0 0 [] _ (lies_nil _ _)).mono ?_
  rintro e w'' ⟨rfl, rfl⟩
  rw [show minL [] = 18446744073709551615 from rfl]
  go_wp2
  go_ret
  exact ⟨rfl, ((Below.refl _ _).alloc (Nat.le_refl _) _).trans (HB.out.mono (by simp))⟩

/-- What the row gives of a slice of integers that came in. -/
def IsRow (k : IntKind) (w : World) (a : Option Addr) (len cap : Nat) (zs : List Int) : Prop :=
  (a = none ∧ len = 0 ∧ cap = 0 ∧ zs = []) ∨
  ∃ x, a = some x ∧ len ≤ cap ∧ cap ≤ maxLen ∧ zs.length = cap ∧ (∀ i, i < zs.length → w.cell? (x.add i) = some (.int k (zs.getD i 0))) ∧ ∀ n ∈ zs, (Lit.int k n).wf = true

theorem IsRow.lies {w : World} {a : Option Addr} {len cap : Nat} {zs : List Int} (h : IsRow .u64 w a len cap zs) : Lies w a len (zs.take len) := by
  rcases h with ⟨rfl, rfl, rfl, rfl⟩ | ⟨x, rfl, hl, hm, hz, hc, hw⟩
  · exact lies_nil _ _
  · unfold maxLen at hm
    refine ⟨by simp; omega, by omega, fun n hn => bounds_u64 (hw n (List.mem_of_mem_take hn)), fun i hi => ?_⟩
    obtain ⟨b, off, rfl, hj⟩ := ints_at hc (by omega)
    refine ⟨b, off, rfl, ?_⟩
    rw [hj i (by omega), List.getElem?_take_of_lt hi]; simp

end Go.Proofs.Ytajcbljojfcceaa
