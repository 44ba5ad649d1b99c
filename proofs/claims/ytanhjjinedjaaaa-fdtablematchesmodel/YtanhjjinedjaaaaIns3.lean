/-
  CONTRACT of slices.Insert of one descriptor, over this seat's translation: all roads; where there is no room the elements go into a new row.
  Conditions: the row lies in memory; the place lies within it or at its end; the descriptor lies in a block of its own.
-/
import Derived.Test.YtanhjjinedjaaaaIns2
namespace Go.Proofs.Ytanhjjinedjaaaa
open Go.ChangeShapes Go.WideShapes Go.ChangeAt Go.RowKit
set_option linter.unusedVariables false

theorem splice_grow (cur X : List Value) (d : List Value) (i n : Nat) (hc : (n + 1) * 4 ≤ cur.length) (hX : cur.take (i * 4) = X.take (i * 4)) (hXl : X.length = n * 4) (hi : i ≤ n) (hd : d.length = 4) :
    (splice (splice cur (i * 4) d) ((i + 1) * 4) (X.drop (i * 4))).take ((n + 1) * 4) = X.take (i * 4) ++ (d ++ X.drop (i * 4)) := by
  unfold splice
  apply List.ext_getElem?
  intro k
  rw [← hX]
  simp only [List.getElem?_take, List.getElem?_append, List.length_take, List.length_append, List.length_drop, List.getElem?_drop, hd, hXl]
  repeat' split
  all_goals first
    | rfl
    | omega
    | (congr 1; omega)
    | (exfalso; omega)
    | (symm; apply List.getElem?_eq_none; omega)
    | (apply List.getElem?_eq_none; omega)

set_option maxHeartbeats 1000000 in
set_option maxRecDepth 100000 in
theorem insert_grow (g n i vb : Nat) (d : D) (L : List D) (w : World) (h : Row 61 w (.slice (some ⟨g, 0, none⟩) n n) L) (hv : One w vb d) (hn : n ≤ 255) (hi : i < n) :
    Calls Try.prog 41 #[.slice (some ⟨g, 0, none⟩) n n, .int .i64 i, .slice (some ⟨vb, 0, none⟩) 1 1] w fun e w' => Inserted w w' (.slice (some ⟨g, 0, none⟩) n n) n (L.take i ++ d :: L.drop i) e := by
  have hl := h.len
  have hro := row_of h
  obtain ⟨cur, hg, hcl, hct, -, -, -⟩ := row_block hro
  have hglt : g < w.heap.size := (Array.getElem?_eq_some_iff.1 hg).1
  have hvlt : vb < w.heap.size := (Array.getElem?_eq_some_iff.1 hv).1
  have hAt := At.own hro
  obtain ⟨X, hX⟩ : ∃ X, ints (flat L) = X := ⟨_, rfl⟩
  have hXl : X.length = n * 4 := by rw [← hX, ints_length, flat_length]; omega
  have hX1 : ∀ u ∈ X, u.oneCell' = true := by rw [← hX]; exact ints_one _
  obtain ⟨N, hN⟩ : ∃ N, N = n + 1 := ⟨_, rfl⟩
  obtain ⟨j, hj⟩ : ∃ j, j = i + 1 := ⟨_, rfl⟩
  obtain ⟨k, hk⟩ : ∃ k, i + k = N := ⟨N - i, by omega⟩
  obtain ⟨i0, hi0, hz0, hs0, hb0⟩ := info_parts info61
  have hold : (Builtin.firstCells i0.size i (.slice (some ⟨g, 0, none⟩) i n)).run Try.prog w.drew = .ok (X.take (i * 4)).toArray w.drew := by
    rw [hs0]
    refine run_firstCells_some w.drew 4 i ⟨g, 0, none⟩ i n (X.take (i * 4)) (by rw [List.length_take, hXl]; omega) (fun j v hj => ?_)
    have h2 := (hAt.take (i * 4)).src
    refine h2 j v ?_
    rw [← hX] at hj
    simpa [ints, List.map_take] using hj
  have hrun : ∀ ty, _ := fun ty => Lib.run_append_grow_zeros (P := Try.prog) w 57 3 ty 61 i0 _ .i64 .i64 Try.underlying57 Try.underlying3 hi0 hz0 (some ⟨g, 0, none⟩) i n (X.take (i * 4)) hold k (by omega) (by rw [hs0]; omega) (by omega) (by omega) (by rw [hb0]; omega) (by rw [hb0]; exact growslice_fits (by omega) (by omega))
  rw [hk] at hrun
  have hge : N ≤ grownCap w N n 61 := grownCap_ge w _ _ _
  have hle : grownCap w N n 61 ≤ maxLen := grownCap_le_maxLen w N n 61 (by unfold maxLen; omega)
  obtain ⟨G, hG⟩ : ∃ G, G = grownCap w N n 61 := ⟨_, rfl⟩
  have hr := hrun 57
  rw [← hG] at hge hle hr
  have hcells : (Value.agg #[.int .i64 0, .int .i64 0, .int .i64 0, .int .i64 0]).cells = (ints (List.replicate 4 0)).toArray := rfl
  rw [hcells, zeroCells_ints 4 _ (by omega), zeroCells_ints 4 _ (by omega)] at hr
  obtain ⟨C, hC⟩ : ∃ C : List Value, C = X.take (i * 4) ++ ints (List.replicate (k * 4) 0) ++ ints (List.replicate ((G - N) * 4) 0) := ⟨_, rfl⟩
  have hC' : (X.take (i * 4)).toArray ++ (ints (List.replicate (k * 4) 0)).toArray ++ (ints (List.replicate ((G - N) * 4) 0)).toArray = C.toArray := by rw [hC]; simp
  rw [hC'] at hr
  have hCl : C.length = G * 4 := by rw [hC]; simp [ints_length, hXl]; omega
  have hCt : C.take (i * 4) = X.take (i * 4) := by rw [hC, List.append_assoc, List.take_append_of_le_length (by rw [List.length_take, hXl]; omega), List.take_take, Nat.min_self]
  have HB : Hid ((w.drew.alloc (.cells C.toArray 61)).heap[w.heap.size]? = some (.cells C.toArray 61 (0, 0))) := heap_alloc_new w.drew _
  have HF : Hid (Fr No w (w.drew.alloc (.cells C.toArray 61))) := (Fr.drew No w).trans (Fr.alloc No _ _)
  have HR := Lib.hid hr
  obtain ⟨gb, hgb⟩ : ∃ gb, w.heap.size = gb := ⟨_, rfl⟩
  rw [hgb] at HB HR hglt hvlt
  have HGB := Lib.hid hgb
  have hG63 : G ≤ 9223372036854775807 := by unfold maxLen at hle; omega
  generalize w.drew.alloc (.cells C.toArray 61) = w2 at HB HF HR
  have HV := Lib.hid (And.intro hv h)
  have hXs : ∀ (z : World), Fr No w z → ∀ (k : Nat) (u : Value), (X.drop (i * 4))[k]? = some u → z.cell? ((⟨g, i * 4, none⟩ : Addr).add k) = some u := by
    intro z hf
    have h2 := (hAt.frNo hf).drop (i * 4)
    rw [Nat.zero_add] at h2
    have h3 := h2.src
    rw [← hX]
    intro k u hk
    exact h3 k u (by simpa [ints, List.map_drop] using hk)
  obtain ⟨Y, hY⟩ : ∃ Y, X.drop (i * 4) = Y := ⟨_, rfl⟩
  have HF3 : Hid (∀ u ∈ Y, u.oneCell' = true) := by rw [← hY]; exact fun u hu => hX1 u (List.mem_of_mem_drop hu)
  rw [hY] at hXs
  have hYl : Y.length = (n - i) * 4 := by rw [← hY, List.length_drop, hXl]; omega
  have e1 : (n : Int) + 1 = (N : Int) := by omega
  have e2 : (i : Int) + 1 = (j : Int) := by omega
  have e2' : IntKind.i64.wrap (j : Int) = (j : Int) := by rw [IntKind.wrap_i64]; omega
  have e3 : (N : Int) - (i : Int) = (k : Int) := by omega
  have q0 : (0 : Int) ≤ (i : Int) := by omega
  have q0' : (0 : Int) ≤ (j : Int) := by omega
  have q1 : (i : Int) ≤ (n : Int) := by omega
  have q1' : (i : Int) ≤ (N : Int) := by omega
  have q2 : (j : Int) ≤ (N : Int) := by omega
  have q5 : ¬ ((i : Int) = (n : Int)) := by omega
  have q6 : (n : Int) < (N : Int) := by omega
  have c0 : ¬ (n = i) := by omega
  have c1 : ¬ (G = i) := by omega
  have c2 : ¬ (G = j) := by omega
  have hmin : Nat.min (n - i) (N - j) * 4 = (n - i) * 4 := by rw [show Nat.min (n - i) (N - j) = min (n - i) (N - j) from rfl]; omega
  have hmin2 : Nat.min 1 (N - i) * 4 = 4 := by rw [show Nat.min 1 (N - i) = min 1 (N - i) from rfl]; omega
  have HE : Hid ((ints d.enc).length = Nat.min 1 (N - i) * 4) := hmin2.symm
  have HE2 : Hid (Y.length = Nat.min (n - i) (N - j) * 4) := by show _ = _; rw [hmin]; exact hYl
  have HF5 : Hid (i * 4 + (ints d.enc).length ≤ C.length) := by
    show _ ≤ _
    have : (ints d.enc).length = 4 := rfl
    omega
  have HC : Hid (∀ (k : Nat) (v : Value), (ints d.enc)[k]? = some v → w2.cell? ((⟨vb, 0, none⟩ : Addr).add k) = some v) := by
    have h1 : One w2 vb d := (HF.out.block vb (by omega) (fun h => h)).trans hv
    exact h1.at_.src
  have HXS := Lib.hid hXs
  have HL := Lib.hid (And.intro hl (And.intro hX (And.intro hXl (And.intro hCl (And.intro hCt (And.intro hY (And.intro hYl (And.intro hN (And.intro hj (And.intro hi (And.intro hge hle)))))))))))
  have hgne : gb ≠ g := by omega
  clear h hro hg hcl hct hAt hX hXl hX1 hN hj hk hold hrun hr hG hC hC' hCl hCt hgb hv hXs hY hYl hmin hmin2 hl hcells hi0 hz0 hs0 hb0 hi hge hle
  go_enter Try.func41, Try.ntmps41
  go_wp2_with (first
    | (at_builtin; refine Lib.wpList_append_run _ rfl (.tmp 34) (.tmp 39) 57 3 rfl _ _ rfl rfl _ _ HR.out ?_)
    | (((with_reducible refine wpList_copy_wide elt57 rfl (.tmp 43) (.tmp 44) rfl gb (i * 4) (N - i) (G - i) ⟨vb, 0, none⟩ 1 1 rfl rfl C 61 HB.out (ints d.enc) HE.out HC.out HF5.out (ints_one _) ?_); intro w3 hg3 hf3; have H3 := Lib.hid (And.intro hg3 hf3); clear hg3 hf3)) | fail)
  obtain ⟨C1, hC1⟩ : ∃ C1, splice C (i * 4) (ints d.enc) = C1 := ⟨_, rfl⟩
  rw [hC1] at H3
  have hC1l : C1.length = G * 4 := by rw [← hC1, length_splice _ _ _ HF5.out, HL.out.2.2.2.1]
  have HF6 : Hid (j * 4 + Y.length ≤ C1.length) := by show _ ≤ _; rw [hC1l]; have := HL.out; omega
  have hFno : Fr No w w3 := HF.out.ofNew H3.out.2 (fun q hq => .inr (by have := HGB.out; omega))
  have HF7 : Hid (∀ (k : Nat) (u : Value), Y[k]? = some u → w3.drew.cell? ((⟨g, i * 4, none⟩ : Addr).add k) = some u) := HXS.out _ (hFno.trans (Fr.drew No _))
  have HK := Lib.hid (And.intro hC1 (And.intro hC1l hFno))
  clear hC1 hC1l hFno HXS
  go_region_law ((refine step_copy_wide elt57 (by rfl) (.tmp 50) (.tmp 53) (by rfl) gb (j * 4) (N - j) (G - j) ⟨g, i * 4, none⟩ (n - i) (n - i) (by simp [Act.eval, Act.put]) (by simp [Act.eval, Act.put]) C1 61 H3.out.1 Y HE2.out HF7.out HF6.out HF3.out ?_); intro w4 hg4 hf4; have H4 := Lib.hid (And.intro hg4 hf4); clear hg4 hf4)
  go_wp2_with fail
  go_ret
  obtain ⟨hl, hX, hXl, hCl, hCt, hY, hYl, hN, hj, hi, hge, hle⟩ := HL.out
  obtain ⟨hC1, hC1l, hFno⟩ := HK.out
  subst hN
  refine inserted_block (g := g) hl (Nat.le_of_lt hi) H4.out.1 ?_ ?_ hge hle ((hFno.trans (Fr.drew No _)).ofNew H4.out.2 (fun q hq => .inr (by have := HGB.out; omega))).no (.inr (by have := HGB.out; omega))
  · rw [length_splice _ _ _ HF6.out, hC1l]
  · rw [← hC1, ← hY, hj, hX]
    exact splice_grow C X (ints d.enc) i n (by rw [hCl]; omega) hCt hXl (by omega) rfl

theorem insert_any (a : Option Addr) (n cap i vb : Nat) (d : D) (L : List D) (w : World) (h : Row 61 w (.slice a n cap) L) (hv : One w vb d) (hne : (Value.slice a n cap).ownBlock ≠ some vb) (hn : n ≤ 255) (hi : i ≤ n) :
    Calls Try.prog 41 #[.slice a n cap, .int .i64 i, .slice (some ⟨vb, 0, none⟩) 1 1] w fun e w' => Inserted w w' (.slice a n cap) n (L.take i ++ d :: L.drop i) e := by
  have hl := h.len
  by_cases hin : i = n
  · subst hin
    rw [List.take_of_length_le (by omega), List.drop_of_length_le (by omega)]
    cases a with
    | none =>
      rcases h.2 with ⟨hv0, h0⟩ | ⟨g, cap', cur, hv0, _⟩
      · have h1 : L = [] := List.eq_nil_of_length_eq_zero h0
        subst h1
        cases hv0
        exact insert_nil vb d w hv
      · cases hv0
    | some ad =>
      rcases h.2 with ⟨hv0, h0⟩ | ⟨g, cap', cur, hv0, _, _, hc, _⟩
      · cases hv0
      · cases hv0
        exact insert_end g _ cap vb d L w h hv hn hc
  · have hlt : i < n := by omega
    obtain ⟨g, rfl, _⟩ := h.form (by omega)
    obtain ⟨cur, hg, hcl, hct, hnc, hcm, -⟩ := row_block (row_of h)
    have hne' : vb ≠ g := fun e => hne (by rw [e]; rfl)
    by_cases hc : n + 1 ≤ cap
    · exact insert_shift g n cap i vb d L w h hv hne' hn hlt hc
    · obtain rfl : cap = n := by omega
      exact insert_grow g cap i vb d L w h hv hn hlt

end Go.Proofs.Ytanhjjinedjaaaa
