/-
  CONTRACT of slices.Insert of one descriptor before the end, over this seat's translation: in place where there is room, in a new row else.
  Conditions: the row lies in memory; the place lies within it; the descriptor lies in a block of its own.
-/
import Derived.Test.YtanhjjinedjaaaaIns
namespace Go.Proofs.Ytanhjjinedjaaaa
open Go.ChangeShapes Go.WideShapes Go.ChangeAt Go.RowKit
set_option linter.unusedVariables false

theorem overlaps_no (w : World) (vb g m c o lb cb kA kB : Nat) (hne : vb ≠ g) (csA csB : Array Value) (tA tB : TypeId) (hA : w.heap[vb]? = some (.cells csA tA (0, 0))) (hB : w.heap[g]? = some (.cells csB tB (0, 0))) (hk : csB.size ≠ 0) :
    (callFunc 49 #[.slice (some ⟨vb, 0, none⟩) m c, .slice (some ⟨g, o, none⟩) lb cb]).run Try.prog w = .ok (.value (.bool false)) w := by
  have hz : ∀ w, (Go.sizeOf 61).run Try.prog w = .ok 4 w := fun w => by
    obtain ⟨i, hi, _, hs, _⟩ := info_parts info61
    simp [Go.sizeOf, typeInfo, hi, hs]
  have hsa : w.shape? vb = some (tA, csA.size) := by simp [World.shape?, hA]
  have hsb : w.shape? g = some (tB, csB.size) := by simp [World.shape?, hB]
  rw [run_callFunc_extern Try.func49 (by kernel_rfl) (by kernel_rfl) (by kernel_rfl) (e := Extern.SlicesOverlaps.overlaps #[57, 57] #[4]) (by kernel_rfl),
    Lib.run_overlaps_apart w 57 4 61 Try.underlying57 4 hz ⟨vb, 0, none⟩ ⟨g, o, none⟩ m c lb cb hne tA tB csA.size csB.size hsa hsb hk (frozen_of_row _ _ _ _ _ hA) (frozen_of_row _ _ _ _ _ hA)]
  rfl

theorem splice_shift (cur X : List Value) (d : List Value) (i n : Nat) (hc : (n + 1) * 4 ≤ cur.length) (hX : cur.take (n * 4) = X) (hi : i ≤ n) (hd : d.length = 4) :
    (splice (splice cur ((i + 1) * 4) (X.drop (i * 4))) (i * 4) d).take ((n + 1) * 4) = X.take (i * 4) ++ (d ++ X.drop (i * 4)) := by
  have hXl : X.length = n * 4 := by rw [← hX, List.length_take]; omega
  have hY : (splice cur ((i + 1) * 4) (X.drop (i * 4))).length = cur.length := length_splice _ _ _ (by rw [List.length_drop]; omega)
  unfold splice
  unfold splice at hY
  apply List.ext_getElem?
  intro k
  simp only [List.getElem?_take, List.getElem?_append, List.length_take, List.length_append, List.length_drop, List.getElem?_drop, hd, ← hX]
  repeat' split
  all_goals first
    | rfl
    | omega
    | (congr 1; omega)
    | (exfalso; omega)
    | (symm; apply List.getElem?_eq_none; omega)
    | (apply List.getElem?_eq_none; omega)

theorem inserted_block {w w' : World} {g g' n cap cap' i : Nat} {cur : List Value} {L : List D} {d : D} (hl : n = L.length) (hi : i ≤ n) (hg : w'.heap[g']? = some (.cells cur.toArray 61 (0, 0))) (hcl : cur.length = cap' * 4) (hct : cur.take ((n + 1) * 4) = (ints (flat L)).take (i * 4) ++ (ints d.enc ++ (ints (flat L)).drop (i * 4))) (hn : n + 1 ≤ cap') (hm : cap' ≤ maxLen)
    (hf : Fr (fun k => k = g) w w') (hat : g' = g ∨ w.heap.size ≤ g') : Inserted w w' (.slice (some ⟨g, 0, none⟩) n cap) n (L.take i ++ d :: L.drop i) (.returned (.slice (some ⟨g', 0, none⟩) (n + 1) cap')) := by
  refine ⟨_, _, rfl, ?_, hf.mono (fun k _ hk => by simp [Value.ownBlock, hk]), fun k hk => ?_⟩
  · unfold Row
    have hlen : (L.take i ++ d :: L.drop i).length = n + 1 := by rw [List.length_append, List.length_take, List.length_cons, List.length_drop]; omega
    rw [hlen, flat_insert]
    refine block_row (K := 4) hg hcl ?_ hn hm (Nat.zero_le _)
    rw [hct]
    simp [ints, List.map_take, List.map_drop]
  · simp [Value.ownBlock] at hk
    subst hk
    rcases hat with rfl | h
    · exact .inl rfl
    · exact .inr h

set_option maxHeartbeats 1000000 in
set_option maxRecDepth 100000 in
theorem insert_shift (g n cap i vb : Nat) (d : D) (L : List D) (w : World) (h : Row 61 w (.slice (some ⟨g, 0, none⟩) n cap) L) (hv : One w vb d) (hne : vb ≠ g) (hn : n ≤ 255) (hi : i < n) (hroom : n + 1 ≤ cap) :
    Calls Try.prog 41 #[.slice (some ⟨g, 0, none⟩) n cap, .int .i64 i, .slice (some ⟨vb, 0, none⟩) 1 1] w fun e w' => Inserted w w' (.slice (some ⟨g, 0, none⟩) n cap) n (L.take i ++ d :: L.drop i) e := by
  have hl := h.len
  obtain ⟨cur, hg, hcl, hct, hnc, hcm, -⟩ := row_block (row_of h)
  have hcm' : cap ≤ 9223372036854775807 := by unfold maxLen at hcm; omega
  have hAt := At.own (row_of h)
  obtain ⟨X, hX⟩ : ∃ X, ints (flat L) = X := ⟨_, rfl⟩
  have hXl : X.length = n * 4 := by rw [← hX, ints_length, flat_length]; omega
  have hX1 : ∀ u ∈ X, u.oneCell' = true := by rw [← hX]; exact ints_one _
  have hXs : ∀ (k : Nat) (u : Value), (X.drop (i * 4))[k]? = some u → w.drew.cell? ((⟨g, i * 4, none⟩ : Addr).add k) = some u := by
    have h2 := hAt.drop (i * 4)
    rw [Nat.zero_add] at h2
    have h3 := h2.src
    rw [← hX]
    intro k u hk
    exact h3 k u (by simpa [ints, List.map_drop] using hk)
  obtain ⟨N, hN⟩ : ∃ N, N = n + 1 := ⟨_, rfl⟩
  obtain ⟨j, hj⟩ : ∃ j, j = i + 1 := ⟨_, rfl⟩
  have e1 : (n : Int) + 1 = (N : Int) := by omega
  have e2 : (i : Int) + 1 = (j : Int) := by omega
  have e2' : IntKind.i64.wrap (j : Int) = (j : Int) := by rw [IntKind.wrap_i64]; omega
  have q0 : (0 : Int) ≤ (i : Int) := by omega
  have q0' : (0 : Int) ≤ (j : Int) := by omega
  have q0n : (0 : Int) ≤ (N : Int) := by omega
  have q1 : (i : Int) ≤ (n : Int) := by omega
  have q1' : (i : Int) ≤ (N : Int) := by omega
  have q2 : (j : Int) ≤ (N : Int) := by omega
  have q3 : (N : Int) ≤ (cap : Int) := by omega
  have q5 : ¬ ((i : Int) = (n : Int)) := by omega
  have q6 : ¬ ((cap : Int) < (N : Int)) := by omega
  have c1 : ¬ (cap = i) := by omega
  have c2 : ¬ (cap = j) := by omega
  have HOV : Hid (∀ o lb cb, (callFunc 49 #[.slice (some ⟨vb, 0, none⟩) 1 1, .slice (some ⟨g, o, none⟩) lb cb]).run Try.prog w = .ok (.value (.bool false)) w) := fun o lb cb => overlaps_no w vb g 1 1 o lb cb 0 0 hne _ _ _ _ hv hg (by rw [List.size_toArray, hcl]; omega)
  have HS := Lib.hid (And.intro hg (And.intro hcl (And.intro hct (And.intro hl (And.intro hX (And.intro hXl (And.intro hX1 hXs)))))))
  have HV := Lib.hid hv
  have HN := Lib.hid (And.intro hN (And.intro hj (And.intro hi hroom)))
  have hmin : Nat.min (N - i) (N - j) * 4 = (n - i) * 4 := by rw [show Nat.min (N - i) (N - j) = min (N - i) (N - j) from rfl]; omega
  have hmin2 : Nat.min 1 (N - i) * 4 = 4 := by rw [show Nat.min 1 (N - i) = min 1 (N - i) from rfl]; omega
  have HM := Lib.hid (And.intro hmin hmin2)
  clear h hg hcl hct hnc hAt hX hXl hX1 hXs hv hN hj hl hcm hmin hmin2 hi hroom
  have hov := HOV.out
  go_enter Try.func41, Try.ntmps41
  go_wp2_with (simp only [hov])
  have HF1 : Hid ((X.drop (i * 4)).length = Nat.min (N - i) (N - j) * 4) := by show _ = _; rw [HM.out.1, List.length_drop, HS.out.2.2.2.2.2.1]; omega
  have HF2 : Hid (j * 4 + (X.drop (i * 4)).length ≤ cur.length) := by show _ ≤ _; rw [List.length_drop, HS.out.2.2.2.2.2.1, HS.out.2.1]; have := HN.out; omega
  have HF3 : Hid (∀ u ∈ X.drop (i * 4), u.oneCell' = true) := fun u hu => HS.out.2.2.2.2.2.2.1 u (List.mem_of_mem_drop hu)
  have HF4 := Lib.hid HS.out.2.2.2.2.2.2.2
  obtain ⟨Y, hY⟩ : ∃ Y, X.drop (i * 4) = Y := ⟨_, rfl⟩
  rw [hY] at HF1 HF2 HF3 HF4
  have HY := Lib.hid hY
  clear hY hov
  go_region_law ((refine step_copy_wide elt57 (by rfl) (.tmp 73) (.tmp 76) (by rfl) g (j * 4) (N - j) (cap - j) ⟨g, i * 4, none⟩ (N - i) (cap - i) (by simp [Act.eval, Act.put]) (by simp [Act.eval, Act.put]) cur 61 HS.out.1 Y HF1.out HF4.out HF2.out HF3.out ?_); intro w1 hg1 hf1; have H1 := Lib.hid (And.intro hg1 hf1); clear hg1 hf1)
  have HC : Hid (∀ (k : Nat) (v : Value), (ints d.enc)[k]? = some v → w1.cell? ((⟨vb, 0, none⟩ : Addr).add k) = some v) := by
    have h1 : One w1 vb d := (H1.out.2.block vb (Array.getElem?_eq_some_iff.1 HV.out).1 hne).trans HV.out
    exact h1.at_.src
  obtain ⟨C1, hC1⟩ : ∃ C1, splice cur (j * 4) Y = C1 := ⟨_, rfl⟩
  have HC1 := Lib.hid hC1
  rw [hC1] at H1
  have HF5 : Hid (i * 4 + (ints d.enc).length ≤ C1.length) := by
    show _ ≤ _
    rw [← hC1, length_splice _ _ _ HF2.out, HS.out.2.1]
    have : (ints d.enc).length = 4 := rfl
    have := HN.out
    omega
  have HE : Hid ((ints d.enc).length = Nat.min 1 (N - i) * 4) := HM.out.2.symm
  clear hC1
  go_wp2_with (first | (((with_reducible refine wpList_copy_wide elt57 rfl (.tmp 80) (.tmp 81) rfl g (i * 4) (N - i) (cap - i) ⟨vb, 0, none⟩ 1 1 rfl rfl C1 61 H1.out.1 (ints d.enc) HE.out HC.out HF5.out (ints_one _) ?_); intro w2 hg2 hf2; have H2 := Lib.hid (And.intro hg2 hf2); clear hg2 hf2)) | fail)
  go_ret
  obtain ⟨hg, hcl, hct, hl, hX, hXl, hX1, hXs⟩ := HS.out
  obtain ⟨hN, hj, hi, hroom⟩ := HN.out
  subst hN
  have hcm : cap ≤ maxLen := by unfold maxLen; omega
  refine inserted_block hl (Nat.le_of_lt hi) H2.out.1 ?_ ?_ hroom hcm (((Fr.drew _ w).trans H1.out.2).trans H2.out.2) (.inl rfl)
  · rw [length_splice _ _ _ HF5.out, ← HC1.out, length_splice _ _ _ HF2.out, hcl]
  · rw [← HC1.out, ← HY.out, hj, hX]
    exact splice_shift cur X (ints d.enc) i n (by rw [hcl]; omega) (by rw [hct, hX]) (by omega) rfl

end Go.Proofs.Ytanhjjinedjaaaa
