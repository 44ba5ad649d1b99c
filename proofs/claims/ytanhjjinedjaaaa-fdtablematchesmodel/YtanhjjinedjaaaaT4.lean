/-
  CONTRACTS of Endpoints and OfConn of the descriptor table, over this seat's translation: each returns a new slice of the keys, in order.
  Conditions: the table lies in memory as TabAt says.
-/
import Derived.Test.YtanhjjinedjaaaaT1
import Derived.Test.YtanhjjinedjaaaaLaws
namespace Go.Proofs.Ytanhjjinedjaaaa
open Go.ChangeShapes Go.WideShapes Go.ChangeAt Go.RowKit
set_option linter.unusedVariables false

def flatP : List (Int × Int) → List Int
  | [] => []
  | p :: L => p.1 :: p.2 :: flatP L

theorem flatP_length (L : List (Int × Int)) : (flatP L).length = L.length * 2 := by
  induction L with
  | nil => rfl
  | cons p L ih => simp [flatP, ih]; omega
theorem flatP_append (A B : List (Int × Int)) : flatP (A ++ B) = flatP A ++ flatP B := by
  induction A with
  | nil => rfl
  | cons a A ih => simp [flatP, ih]
theorem flatP_get : ∀ (L : List (Int × Int)) (i : Nat) (p : Int × Int), L[i]? = some p → (flatP L)[i * 2]? = some p.1 ∧ (flatP L)[i * 2 + 1]? = some p.2 := by
  intro L
  induction L with
  | nil => intro i p hi; simp at hi
  | cons a A ih =>
    intro i p hi
    cases i with
    | zero => simp at hi; subst hi; exact ⟨rfl, rfl⟩
    | succ i =>
      have := ih i p (by simpa using hi)
      rw [show (i + 1) * 2 = i * 2 + 1 + 1 by omega]
      simpa [flatP] using this

/-- A slice of endpoints that was made behind base. -/
def Ends (w : World) (base : Nat) (a : Option Addr) (n cap : Nat) (K : List (Int × Int)) : Prop := w.ownsRow base 38 2 (.slice a n cap) n (ints (flatP K))

theorem Ends.len {w : World} {base n cap : Nat} {a : Option Addr} {K : List (Int × Int)} (h : Ends w base a n cap K) : n = K.length := by
  have := h.1
  rw [ints_length, flatP_length] at this
  omega
theorem Ends.row {w : World} {base n cap : Nat} {a : Option Addr} {K : List (Int × Int)} (h : Ends w base a n cap K) : w.ownsRow base 38 2 (.slice a n cap) n (ints (flatP K)) := h
theorem Ends.frNo {w w' : World} {base n cap : Nat} {a : Option Addr} {K : List (Int × Int)} (h : Ends w base a n cap K) (hf : Fr No w w') : Ends w' base a n cap K := row_frNo h hf

theorem made {w : World} {base base' n cap : Nat} {a : Option Addr} {K : List (Int × Int)} (h : Ends w base a n cap K) (hb : base' ≤ base) : Ends w base' a n cap K := by
  refine ⟨h.1, ?_⟩
  rcases h.2 with h1 | ⟨g, cap, cur, hv, hb', hr⟩
  · exact .inl h1
  · exact .inr ⟨g, cap, cur, hv, Nat.le_trans hb hb', hr⟩

theorem two_at (w : World) (x y : Int) : At (w.alloc (.cells #[.int .i64 x, .int .i64 y] 38)) (some ⟨w.heap.size, 0, none⟩) [x, y] := At.block (xs := [x, y]) (t := 38) (heap_alloc_new w _)

theorem grown_no {w0 w1 w2 : World} {base : Nat} {v : Value} (h : Fr No w0 w1) (hb : w0.heap.size = base) (hg : w1.grownBy w2 v.ownBlock) (hl : ∀ k, v.ownBlock = some k → base ≤ k) : Fr No w0 w2 :=
  h.ofNew (Fr.grown (S := fun k => base ≤ k) hg hl) fun k hk => .inr (by omega)

theorem take_map {L : List D} {i : Nat} {d : D} (hd : L[i]? = some d) : (L.take (i + 1)).map D.key = (L.take i).map D.key ++ [d.key] := by
  obtain ⟨h, rfl⟩ := List.getElem?_eq_some_iff.1 hd
  rw [List.take_succ_eq_append_getElem h, List.map_append]
  rfl

def ofConn (c : Int) (K : List (Int × Int)) : List (Int × Int) := K.filter (fun p => decide (p.1 = c))

theorem ofConn_append (c : Int) (A B : List (Int × Int)) : ofConn c (A ++ B) = ofConn c A ++ ofConn c B := List.filter_append ..

/-- What an iteration's append needs and gives. -/
theorem at_second (wr : World) (o : Obj) (x y : Int) : At ((wr.alloc o).alloc (.cells #[.int .i64 x, .int .i64 y] 38)) (some ⟨wr.heap.size + 1, 0, none⟩) [x, y] := by
  have := two_at (wr.alloc o) x y
  simpa using this

set_option maxHeartbeats 1000000 in
set_option maxRecDepth 100000 in
theorem endpoints_any (S : Nat → Prop) (hb : Nat) (L : List D) (size op : Nat) (w : World) (h : TabAt S w hb L size op) :
    Calls Try.prog 13 #[.pointer (some ⟨hb, 0, none⟩)] w fun e w' => ∃ a n cap, e = .returned (.slice a n cap) ∧ Ends w' w.heap.size a n cap (L.map D.key) ∧ Fr No w w' := by
  obtain ⟨⟨sv, hr, _⟩, hg⟩ := h
  obtain ⟨a, cap, rfl, -, -⟩ := hr.row.any
  obtain ⟨n, hn⟩ : ∃ n, L.length = n := ⟨_, rfl⟩
  have h256 : n ≤ 256 := by have := hg.len; have := hg.small; omega
  rw [hn] at hr
  obtain ⟨c0, -, -⟩ := hr.hcell
  obtain ⟨i0, hi0, hz0, hz1, hz2⟩ := info_parts info38
  have hmk : ∀ w : World, (Instr.makeSlice 28 (.int .i64 0) (.int .i64 (n : Int))).run Try.prog w = .ok (.slice (some ⟨w.heap.size, 0, none⟩) 0 n) (w.alloc (.cells (madeCells #[.int .i64 0, .int .i64 0] (n * 2)) 38)) := by
    intro w
    have := run_make (P := Try.prog) w 28 38 i0 _ Try.underlying28 hi0 hz0 .i64 .i64 0 n (by omega) (by omega) (by rw [hz2]; omega) (by omega)
    simpa [hz1, Value.cells] using this
  have HM : Hid (Ends (w.alloc (.cells (madeCells #[.int .i64 0, .int .i64 0] (n * 2)) 38)) w.heap.size (some ⟨w.heap.size, 0, none⟩) 0 n []) :=
    World.ownsRow_made w _ n (Nat.le_refl _) (by unfold maxLen; omega) (size_madeCells _ _)
  have c0' : (w.alloc (.cells (madeCells #[.int .i64 0, .int .i64 0] (n * 2)) 38)).cell? ⟨hb, 0, none⟩ = some (.slice a n cap) := (hr.frNo (Fr.alloc No w (.cells (madeCells #[.int .i64 0, .int .i64 0] (n * 2)) 38))).hcell.1
  have HF0 : Hid (Fr No w (w.alloc (.cells (madeCells #[.int .i64 0, .int .i64 0] (n * 2)) 38))) := Fr.alloc _ _ _
  have HS := Lib.hid (And.intro hr hn)
  clear hr hg hn hi0 hz0 hz1 hz2
  go_enter Try.func13, Try.ntmps13
  go_wp2_with fail
  clear c0' c0 hmk
  go_loopg [3, 17] (n + 1) (fun g s3 s17 wr => ∃ (i m cp : Nat) (ra : Option Addr), s3 = .slice ra m cp ∧ s17 = .int .i64 i ∧ i ≤ n ∧ n - i < g ∧ m ≤ i ∧ Hid (Ends wr w.heap.size ra m cp ((L.take i).map D.key) ∧ Fr No w wr))
  case atStart => exact ⟨0, 0, n, some ⟨w.heap.size, 0, none⟩, rfl, by go_num, by omega, by omega, by omega, HM.out, HF0.out⟩
  case round =>
    obtain ⟨i, m, cp, ra, rfl, rfl, hin, hig, hmi, HR⟩ := hrel
    clear HM HF0
    by_cases hi : i < n
    · obtain ⟨d, hd⟩ : ∃ d, L[i]? = some d := ⟨_, List.getElem?_eq_getElem (by have := HS.out.2; omega)⟩
      have hr := HS.out.1.frNo HR.out.2
      obtain ⟨g, rfl, _⟩ := hr.row.form (by have := HS.out.2; omega)
      obtain ⟨d0, d1, d2, d3⟩ := hr.row.cells hd
      have HD := Lib.hid hd
      obtain ⟨dc, da, dn, ds⟩ := d
      simp only at d0 d1 d2 d3
      have q1 : (0 : Int) ≤ (i : Int) := by omega
      have q2 : (i : Int) < (n : Int) := by omega
      have hfa : Fr No wr ((wr.alloc (.cells #[.int .i64 dc, .int .i64 da, .int .i64 (dn : Int), .int .i64 ds] 61)).alloc (.cells #[.int .i64 dc, .int .i64 da] 38)) := (Fr.alloc No _ _).trans (Fr.alloc No _ _)
      have HA := Lib.hid (at_second wr (.cells #[.int .i64 dc, .int .i64 da, .int .i64 (dn : Int), .int .i64 ds] 61) dc da)
      have HE := Lib.hid (HR.out.1.frNo hfa).row
      have HB : Hid (w.heap.size ≤ ((wr.alloc (.cells #[.int .i64 dc, .int .i64 da, .int .i64 (dn : Int), .int .i64 ds] 61)).alloc (.cells #[.int .i64 dc, .int .i64 da] 38)).heap.size) := Nat.le_trans HR.out.2.size hfa.size
      have HFA := Lib.hid hfa
      clear hr hd hfa
      go_wp2_with (first | (at_builtin; ((with_reducible refine wpList_append_wide elt28 (by omega) rfl (.tmp 21) (.tmp 24) rfl w.heap.size (.slice ra m cp) m _ rfl HE.out (some ⟨wr.heap.size + 1, 0, none⟩) 1 1 [dc, da] rfl rfl HA.out (fun h => by cases h) (by omega) HB.out ?_); intro a2 cap2 w2 hown hgr hat; have H2 := Lib.hid (And.intro hown (And.intro hgr hat)); clear hown hgr hat)) | fail)
      go_roundg (n - i)
      case measure => exact hig
      case rel =>
        refine ⟨i + 1, m + 1, cap2, a2, rfl, by go_num, by omega, by omega, by omega, ?_, ?_⟩
        · rw [take_map HD.out]
          unfold Ends
          rw [flatP_append]
          exact H2.out.1
        · exact grown_no (HR.out.2.trans HFA.out) rfl H2.out.2.1 (fun k hk => (HR.out.1.lt k hk).1)
    · obtain rfl : i = n := by omega
      have q2 : ¬ ((i : Int) < (i : Int)) := by omega
      go_wp2_with fail
      go_ret
      have h1 := HR.out.1
      rw [List.take_of_length_le (by have := HS.out.2; omega)] at h1
      exact ⟨ra, m, cp, rfl, h1, HR.out.2⟩

set_option maxHeartbeats 1000000 in
set_option maxRecDepth 100000 in
theorem ofConn_any (S : Nat → Prop) (hb : Nat) (L : List D) (size op : Nat) (x : Int) (w : World) (h : TabAt S w hb L size op) :
    Calls Try.prog 19 #[.pointer (some ⟨hb, 0, none⟩), .int .i64 x] w fun e w' => ∃ a n cap, e = .returned (.slice a n cap) ∧ Ends w' w.heap.size a n cap (ofConn x (L.map D.key)) ∧ Fr No w w' := by
  obtain ⟨⟨sv, hr, _⟩, hg⟩ := h
  obtain ⟨a, cap, rfl, -, -⟩ := hr.row.any
  obtain ⟨n, hn⟩ : ∃ n, L.length = n := ⟨_, rfl⟩
  have h256 : n ≤ 256 := by have := hg.len; have := hg.small; omega
  rw [hn] at hr
  obtain ⟨c0, -, -⟩ := hr.hcell
  have HS := Lib.hid (And.intro hr hn)
  clear hr hg hn
  go_enter Try.func19, Try.ntmps19
  go_wp2_with fail
  clear c0
  go_loopg [5, 13] (n + 1) (fun g s5 s13 wr => ∃ (i m cp : Nat) (ra : Option Addr), s5 = .slice ra m cp ∧ s13 = .int .i64 i ∧ i ≤ n ∧ n - i < g ∧ m ≤ i ∧ Hid (Ends wr w.heap.size ra m cp (ofConn x ((L.take i).map D.key)) ∧ Fr No w wr))
  case atStart => exact ⟨0, 0, 0, none, rfl, by go_num, by omega, by omega, by omega, World.ownsRow_nil _ _ _ _, Fr.refl _ _⟩
  case round =>
    obtain ⟨i, m, cp, ra, rfl, rfl, hin, hig, hmi, HR⟩ := hrel
    by_cases hi : i < n
    · obtain ⟨d, hd⟩ : ∃ d, L[i]? = some d := ⟨_, List.getElem?_eq_getElem (by have := HS.out.2; omega)⟩
      have hr := HS.out.1.frNo HR.out.2
      obtain ⟨g, rfl, _⟩ := hr.row.form (by have := HS.out.2; omega)
      obtain ⟨d0, d1, d2, d3⟩ := hr.row.cells hd
      have HD := Lib.hid hd
      obtain ⟨dc, da, dn, ds⟩ := d
      simp only at d0 d1 d2 d3
      have q1 : (0 : Int) ≤ (i : Int) := by omega
      have q2 : (i : Int) < (n : Int) := by omega
      by_cases hx : dc = x
      · have HX := Lib.hid hx
        subst hx
        have hfa : Fr No wr ((wr.alloc (.cells #[.int .i64 dc, .int .i64 da, .int .i64 (dn : Int), .int .i64 ds] 61)).alloc (.cells #[.int .i64 dc, .int .i64 da] 38)) := (Fr.alloc No _ _).trans (Fr.alloc No _ _)
        have HA := Lib.hid (at_second wr (.cells #[.int .i64 dc, .int .i64 da, .int .i64 (dn : Int), .int .i64 ds] 61) dc da)
        have HE := Lib.hid (HR.out.1.frNo hfa).row
        have HB : Hid (w.heap.size ≤ ((wr.alloc (.cells #[.int .i64 dc, .int .i64 da, .int .i64 (dn : Int), .int .i64 ds] 61)).alloc (.cells #[.int .i64 dc, .int .i64 da] 38)).heap.size) := Nat.le_trans HR.out.2.size hfa.size
        have HFA := Lib.hid hfa
        clear hr hd hfa
        go_wp2_with (first | (at_builtin; ((with_reducible refine wpList_append_wide elt28 (by omega) rfl (.tmp 22) (.tmp 25) rfl w.heap.size (.slice ra m cp) m _ rfl HE.out (some ⟨wr.heap.size + 1, 0, none⟩) 1 1 [dc, da] rfl rfl HA.out (fun h => by cases h) (by omega) HB.out ?_); intro a2 cap2 w2 hown hgr hat; have H2 := Lib.hid (And.intro hown (And.intro hgr hat)); clear hown hgr hat)) | fail)
        go_roundg (n - i)
        case measure => exact hig
        case rel =>
          refine ⟨i + 1, m + 1, cap2, a2, rfl, by go_num, by omega, by omega, by omega, ?_, ?_⟩
          · rw [take_map HD.out, ofConn_append]
            unfold Ends
            rw [flatP_append]
            have e1 : ofConn dc [D.key ⟨dc, da, dn, ds⟩] = [(dc, da)] := by simp [ofConn, D.key]
            rw [e1]
            exact H2.out.1
          · exact grown_no (HR.out.2.trans HFA.out) rfl H2.out.2.1 (fun k hk => (HR.out.1.lt k hk).1)
      · clear hr hd
        go_wp2_with fail
        go_roundg (n - i)
        case measure => exact hig
        case rel =>
          refine ⟨i + 1, m, cp, ra, rfl, by go_num, by omega, by omega, by omega, ?_, HR.out.2.trans (Fr.alloc No _ _)⟩
          rw [take_map HD.out, ofConn_append]
          have e1 : ofConn x [D.key ⟨dc, da, dn, ds⟩] = [] := by simp [ofConn, D.key, hx]
          rw [e1, List.append_nil]
          exact HR.out.1.frNo (Fr.alloc No _ _)
    · obtain rfl : i = n := by omega
      have q2 : ¬ ((i : Int) < (i : Int)) := by omega
      go_wp2_with fail
      go_ret
      have h1 := HR.out.1
      rw [List.take_of_length_le (by have := HS.out.2; omega)] at h1
      exact ⟨ra, m, cp, rfl, h1, HR.out.2⟩

end Go.Proofs.Ytanhjjinedjaaaa
