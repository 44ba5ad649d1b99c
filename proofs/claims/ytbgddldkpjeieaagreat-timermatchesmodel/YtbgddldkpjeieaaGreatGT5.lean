/-
  CONTRACTS of Expire and Descendants of the timers at one value type, over this seat's translation: what each call returns, what it leaves in memory.
  Conditions: the timers lie in memory as Tim says.
-/
import Derived.Test.YtbgddldkpjeieaaGreatGT4
namespace Go.Proofs.YtbgddldkpjeieaaGreat.G
open Go.ChangeShapes Go.WideShapes Go.ChangeAt Go.RowKit Go.Maps
set_option linter.unusedVariables false

theorem desc_miss (S : Nat → Prop) (tb : Nat) (L : List Rec) (last k : Int) (w : World) (h : TI S w tb L last) (hk : (Lit.int .i64 k).wf = true) (hno : ∀ r ∈ L, r.id ≠ k) :
    Calls Tryz.prog 36 #[.pointer (some ⟨tb, 0, none⟩), .int .i64 k] w fun e w' => e = .returned (.slice none 0 0) ∧ w' = w := by
  obtain ⟨hb, mb, sv, A, blk, cm, hX, hM⟩ := h
  have c0 := hX.hcell
  have HX := Lib.hid (And.intro hX hno)
  clear hX hM hno
  go_enter Tryz.func36, Tryz.ntmps36
  go_wp2_with fail
  refine (get_miss hb mb sv A last k _ HX.out.1.heap hk (HX.out.1.miss HX.out.2)).mono ?_
  rintro e w1 ⟨rfl, rfl⟩
  go_wp2_with fail
  go_ret
  exact ⟨rfl, rfl⟩

set_option maxHeartbeats 1000000 in
set_option maxRecDepth 100000 in
theorem desc_hit (S : Nat → Prop) (tb : Nat) (L : List Rec) (last : Int) (q : Rec) (w : World) (h : TI S w tb L last) (hq : q ∈ L) :
    Calls Tryz.prog 36 #[.pointer (some ⟨tb, 0, none⟩), .int .i64 q.id] w fun e w' => ∃ g o n cap, n + 1 = (fam L q.id).length ∧ e = .returned (.slice (some ⟨g, o, none⟩) n cap) ∧ w.heap.size ≤ g ∧ (∀ (i : Nat) (r : Rec), (fam L q.id)[i + 1]? = some r → w'.cell? ⟨g, o + i, none⟩ = some (.int .i64 r.id)) ∧ Fr No w w' := by
  obtain ⟨hb, mb, sv, A, blk, cm, hX, hM⟩ := h
  have c0 := hX.hcell
  obtain ⟨i, hi⟩ := hX.get hq
  obtain ⟨T, hF⟩ := fam_head hX.wood (hX.wood.id q hq).1 hq rfl
  obtain ⟨n, hn⟩ : ∃ n, (fam L q.id).length = n + 1 := ⟨T.length, by rw [hF]; rfl⟩
  have hn1 : n ≤ 1000 := by have h1 := fam_len L q.id; have h2 := hX.wood.len; have h3 := hX.top; omega
  have HX := Lib.hid (And.intro hX (And.intro hM (And.intro hi (And.intro hq hn))))
  clear hX hM hi hq hF
  go_enter Tryz.func36, Tryz.ntmps36
  go_wp2_with fail
  refine (get_hit hb mb sv A last i _ _ HX.out.1.heap HX.out.2.2.1).mono ?_
  rintro e w1 ⟨rfl, hf1⟩
  have H1 := Lib.hid (And.intro (HX.out.1.frNo hf1) hf1)
  clear hf1 c0
  simp only [entOf]
  go_wp2_with fail
  refine (family_any S tb L last q _ ⟨hb, mb, sv, A, blk, cm, H1.out.1, HX.out.2.1⟩ HX.out.2.2.2.1).mono ?_
  rintro e w2 ⟨g, cap, rfl, hrow, hf2⟩
  rw [hn]
  have hcap : n + 1 ≤ cap ∧ cap ≤ maxLen := by
    unfold FamRow at hrow
    rw [hn] at hrow
    rcases hrow.2 with ⟨hv, _⟩ | ⟨g', cap', cur, hv, h1, h2, h3, h4, _⟩
    · cases hv
    · cases hv; exact ⟨h3, h4⟩
  have H2 := Lib.hid (And.intro hrow hf2)
  clear hrow hf2 hn
  unfold maxLen at hcap
  have hbg : Hid (w.heap.size ≤ g ∧ ∀ (i : Nat) (r : Rec), (fam L q.id)[i]? = some r → w2.cell? ⟨g, i, none⟩ = some (.int .i64 r.id)) := by
    have h1 := H2.out.1
    unfold FamRow at h1
    refine ⟨Nat.le_trans H1.out.2.size (h1.lt _ rfl).1, fun i r hr => row_cell h1 (by rw [List.getElem?_map, hr]; rfl)⟩
  by_cases hc1 : cap = 1
  · subst hc1
    obtain rfl : n = 0 := by omega
    clear hcap hn1
    go_wp2_with fail
    all_goals (
      go_ret
      refine ⟨g, _, 0, _, by rw [HX.out.2.2.2.2], rfl, hbg.out.1, fun i r hr => ?_, H1.out.2.trans H2.out.2⟩
      have := (List.getElem?_eq_some_iff.1 hr).1
      have := HX.out.2.2.2.2
      omega)
  · have q1 : (1 : Int) ≤ ((n : Int) + 1) := by omega
    have q2 : ((n : Int) + 1) ≤ (cap : Int) := by omega
    go_wp2_with fail
    all_goals (
      go_ret
      refine ⟨g, _, n, _, HX.out.2.2.2.2.symm, rfl, hbg.out.1, fun i r hr => ?_, H1.out.2.trans H2.out.2⟩
      have := hbg.out.2 (i + 1) r hr
      rw [Nat.add_comm] at this
      exact this)

end Go.Proofs.YtbgddldkpjeieaaGreat.G
