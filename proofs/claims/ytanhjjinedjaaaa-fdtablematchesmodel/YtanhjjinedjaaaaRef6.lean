/-
  CONTRACT of OfConn of the reference table, over this seat's translation; Endpoints, OfConn and Find beside a table.
  Conditions: table and reference lie in memory side by side and have the same entries.
-/
import Derived.Test.YtanhjjinedjaaaaRef5
namespace Go.Proofs.Ytanhjjinedjaaaa
open Go.ChangeShapes Go.WideShapes Go.ChangeAt Go.RowKit
set_option linter.unusedVariables false

theorem takeP {K : List (Int × Int)} {i : Nat} {p : Int × Int} (hd : K[i]? = some p) : K.take (i + 1) = K.take i ++ [p] := by
  obtain ⟨h, rfl⟩ := List.getElem?_eq_some_iff.1 hd
  rw [List.take_succ_eq_append_getElem h]

set_option maxHeartbeats 1000000 in
set_option maxRecDepth 100000 in
theorem ofConn_ref (rb : Nat) (sv : Value) (M : List D) (k tot : Nat) (x : Int) (w : World) (h : RefRaw w rb sv M k tot) (h256 : M.length ≤ 256) (hdis : M.Pairwise (fun d e => d.key ≠ e.key)) :
    Calls Try.prog 20 #[.pointer (some ⟨rb, 0, none⟩), .int .i64 x] w fun e w' => ∃ a n cap, e = .returned (.slice a n cap) ∧ ∃ K, Ends w' w.heap.size a n cap (ofConn x K) ∧ SortedP K ∧ K.Perm (M.map D.key) ∧ Fr No w w' := by
  have HS := Lib.hid (And.intro h (And.intro h256 hdis))
  clear h h256 hdis
  go_enter Try.func20, Try.ntmps20
  go_wp2_with fail
  refine (ends_ref rb sv M k tot _ HS.out.1 HS.out.2.1 HS.out.2.2).mono ?_
  rintro e w1 ⟨ea, n, ec, rfl, K, hE, hs, hp, hf⟩
  have hn256 : n ≤ 256 := by
    have h1 := hE.len
    have h2 := hp.length_eq
    rw [List.length_map] at h2
    have := HS.out.2.1
    omega
  have H1 := Lib.hid (And.intro hE (And.intro hs (And.intro hp hf)))
  clear hE hs hp hf
  go_wp2_with fail
  go_loopg [5, 7] (n + 1) (fun g s5 s7 wr => ∃ (i m cp : Nat) (ra : Option Addr), s5 = .slice ra m cp ∧ s7 = .int .i64 i ∧ i ≤ n ∧ n - i < g ∧ m ≤ i ∧ Hid (Ends wr w1.heap.size ra m cp (ofConn x (K.take i)) ∧ Fr No w1 wr))
  case atStart => exact ⟨0, 0, 0, none, rfl, by go_num, by omega, by omega, by omega, World.ownsRow_nil _ _ _ _, Fr.refl _ _⟩
  case round =>
    obtain ⟨i, m, cp, ra, rfl, rfl, hin, hig, hmi, HR⟩ := hrel
    by_cases hi : i < n
    · obtain ⟨⟨dc, da⟩, hd⟩ : ∃ p, K[i]? = some p := ⟨_, List.getElem?_eq_getElem (by have := H1.out.1.len; omega)⟩
      obtain ⟨eb, rfl, e0, e1⟩ := (H1.out.1.frNo HR.out.2).cells hd
      simp only at e0 e1
      have HD := Lib.hid hd
      have q1 : (0 : Int) ≤ (i : Int) := by omega
      have q2 : (i : Int) < (n : Int) := by omega
      clear hd
      by_cases hx : dc = x
      · subst hx
        have hfa : Fr No wr (wr.alloc (.cells #[.int .i64 dc, .int .i64 da] 38)) := Fr.alloc No _ _
        have HA := Lib.hid (two_at wr dc da)
        have HE := Lib.hid (HR.out.1.frNo hfa).row
        have HB : Hid (w1.heap.size ≤ (wr.alloc (.cells #[.int .i64 dc, .int .i64 da] 38)).heap.size) := Nat.le_trans HR.out.2.size hfa.size
        have HFA := Lib.hid hfa
        clear hfa
        go_wp2_with (first | (at_builtin; ((with_reducible refine wpList_append_wide elt28 (by omega) rfl (.tmp 23) (.tmp 28) rfl w1.heap.size (.slice ra m cp) m _ rfl HE.out (some ⟨wr.heap.size, 0, none⟩) 1 1 [dc, da] rfl rfl HA.out (fun h => by cases h) (by omega) HB.out ?_); intro a2 cap2 w2 hown hgr hat; have H2 := Lib.hid (And.intro hown (And.intro hgr hat)); clear hown hgr hat)) | fail)
        go_roundg (n - i)
        case measure => exact hig
        case rel =>
          refine ⟨i + 1, m + 1, cap2, a2, rfl, by go_num, by omega, by omega, by omega, ?_, ?_⟩
          · rw [takeP HD.out, ofConn_append]
            unfold Ends
            rw [flatP_append]
            have e1 : ofConn dc [(dc, da)] = [(dc, da)] := by simp [ofConn]
            rw [e1]
            exact H2.out.1
          · exact grown_no (HR.out.2.trans HFA.out) rfl H2.out.2.1 (fun q hq => (HR.out.1.lt q hq).1)
      · go_wp2_with fail
        go_roundg (n - i)
        case measure => exact hig
        case rel =>
          refine ⟨i + 1, m, cp, ra, rfl, by go_num, by omega, by omega, by omega, ?_, HR.out.2⟩
          rw [takeP HD.out, ofConn_append]
          have e1 : ofConn x [(dc, da)] = [] := by simp [ofConn, hx]
          rw [e1, List.append_nil]
          exact HR.out.1
    · obtain rfl : i = n := by omega
      have q2 : ¬ ((i : Int) < (i : Int)) := by omega
      go_wp2_with fail
      go_ret
      obtain ⟨h1, h2⟩ := HR.out
      rw [List.take_of_length_le (by have := H1.out.1.len; omega)] at h1
      exact ⟨ra, m, cp, rfl, K, row_base h1 H1.out.2.2.2.size, H1.out.2.1, H1.out.2.2.1, H1.out.2.2.2.trans h2⟩

theorem perm_keys {L M : List D} (hs : Sorted L) (hp : L.Perm M) : M.Pairwise (fun d e => d.key ≠ e.key) := by
  have h1 : L.Pairwise (fun d e => d.key ≠ e.key) := hs.imp (fun {a b} h => fun he => lt_irrefl a.key (by rw [← he] at h; exact h))
  exact (hp.pairwise_iff (fun {a b} h => Ne.symm h)).1 h1

theorem sorted_keys {L : List D} (hs : Sorted L) : SortedP (L.map D.key) := by
  unfold SortedP
  rw [List.pairwise_map]
  exact hs

section
variable {w0 w : World} {Z : Nat → Prop} {hb rb size op : Nat} {L M : List D}

theorem pr_ends (h : Pr w0 w Z hb rb L M size op) : Calls Try.prog 18 #[.pointer (some ⟨rb, 0, none⟩)] w fun e w' => ∃ a n cap, e = .returned (.slice a n cap) ∧ Ends w' w.heap.size a n cap (L.map D.key) ∧ Fr No w w' := by
  obtain ⟨S, ⟨sv, hr, _⟩, h256, _⟩ := h.duo.atB
  have hs := h.duo.good.sorted
  refine (ends_ref rb sv M size op w hr h256 (perm_keys hs h.perm)).mono ?_
  rintro e w' ⟨a, n, cap, rfl, K, hE, hsK, hp, hf⟩
  have : K = L.map D.key := sortedP_unique _ _ hsK (sorted_keys hs) (hp.trans (h.perm.symm.map D.key))
  subst this
  exact ⟨a, n, cap, rfl, hE, hf⟩

theorem pr_ofConn (h : Pr w0 w Z hb rb L M size op) (x : Int) : Calls Try.prog 20 #[.pointer (some ⟨rb, 0, none⟩), .int .i64 x] w fun e w' => ∃ a n cap, e = .returned (.slice a n cap) ∧ Ends w' w.heap.size a n cap (ofConn x (L.map D.key)) ∧ Fr No w w' := by
  obtain ⟨S, ⟨sv, hr, _⟩, h256, _⟩ := h.duo.atB
  have hs := h.duo.good.sorted
  refine (ofConn_ref rb sv M size op x w hr h256 (perm_keys hs h.perm)).mono ?_
  rintro e w' ⟨a, n, cap, rfl, K, hE, hsK, hp, hf⟩
  have : K = L.map D.key := sortedP_unique _ _ hsK (sorted_keys hs) (hp.trans (h.perm.symm.map D.key))
  subst this
  exact ⟨a, n, cap, rfl, hE, hf⟩

theorem pr_find (h : Pr w0 w Z hb rb L M size op) (xc xa : Int) : Calls Try.prog 21 #[.pointer (some ⟨rb, 0, none⟩), .agg #[.int .i64 xc, .int .i64 xa]] w fun e w' => ∃ v, e = .returned (.int .i64 v) ∧ Fnd M (xc, xa) v ∧ Fr No w w' := by
  obtain ⟨S, ⟨sv, hr, _⟩, h256, _⟩ := h.duo.atB
  exact find_any rb sv M size op xc xa w hr h256

/-- The reference's header and one of its entries. -/
theorem pr_cells (h : Pr w0 w Z hb rb L M size op) : ∃ a cap, w.cell? ⟨rb, 1, none⟩ = some (.slice a M.length cap) ∧ w.cell? ⟨rb, 2, none⟩ = some (.int .i64 op) ∧ ∀ (i : Nat) (d : D), M[i]? = some d → ∃ g, a = some ⟨g, 0, none⟩ ∧ w.cell? ⟨g, i * 4 + 2, none⟩ = some (.int .i64 d.no) ∧ w.cell? ⟨g, i * 4 + 3, none⟩ = some (.int .i64 d.st) := by
  obtain ⟨S, ⟨sv, hr, _⟩, h256, _⟩ := h.duo.atB
  obtain ⟨a, cap, rfl, _, _⟩ := hr.row.any
  refine ⟨a, cap, hr.hcell.2.1, hr.hcell.2.2, fun i d hd => ?_⟩
  obtain ⟨g, rfl, _⟩ := hr.row.form (by have := (List.getElem?_eq_some_iff.1 hd).1; omega)
  obtain ⟨-, -, h2, h3⟩ := hr.row.cells hd
  exact ⟨g, rfl, h2, h3⟩
end

end Go.Proofs.Ytanhjjinedjaaaa
