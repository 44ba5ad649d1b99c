/-
  CONTRACTS of Expire and Descendants of the timers at one value type, over this seat's translation: what each call returns, what it leaves in memory.
  Conditions: the timers lie in memory as Tim says.
-/
import Derived.Test.YtbgddldkpjeieaaNT4
namespace Go.Proofs.Ytbgddldkpjeieaa.N
open Go.ChangeShapes Go.WideShapes Go.ChangeAt Go.RowKit Go.Maps
set_option linter.unusedVariables false

set_option maxHeartbeats 1000000 in
set_option maxRecDepth 100000 in
theorem expire_none (S : Nat → Prop) (tb : Nat) (L : List Rec) (last now : Int) (w : World) (h : TI S w tb L last) (hno : ∀ r ∈ L, now < r.due) :
    Calls Try.prog 14 #[.pointer (some ⟨tb, 0, none⟩), .int .u64 now] w fun e w' => e = .returned (.tuple #[.int .i64 0, .int .i64 0, .bool false]) ∧ Fr No w w' := by
  obtain ⟨hb, mb, sv, A, blk, cm, hX, hM⟩ := h
  have c0 := hX.hcell
  have HX := Lib.hid hX
  cases hA : A with
  | nil =>
    subst hA
    clear hX hM hno
    go_enter Try.func14, Try.ntmps14
    go_wp2_with fail
    refine (min_empty hb mb sv last _ HX.out.heap).mono ?_
    rintro e w1 ⟨rfl, rfl⟩
    go_wp2_with fail
    refine bodyPost_ret_by (by simp [results]; rfl) rfl ?_
    exact ⟨rfl, Fr.refl _ _⟩
  | cons e0 A' =>
    have h0 : A[0]? = some e0 := by rw [hA]; rfl
    obtain ⟨r, hr, he⟩ := List.mem_map.1 (hX.perm.mem_iff.1 (List.mem_of_getElem? h0))
    have hlt := hno r hr
    have HA' := Lib.hid h0
    clear hX hM hno hA h0
    subst he
    go_enter Try.func14, Try.ntmps14
    go_wp2_with fail
    refine (min_some hb mb sv A last _ _ HX.out.heap HA'.out).mono ?_
    rintro e w1 ⟨rfl, hf1⟩
    simp only [entOf]
    go_wp2_with fail
    refine bodyPost_ret_by (by simp [results]; rfl) rfl ?_
    exact ⟨rfl, hf1⟩

set_option maxHeartbeats 1000000 in
set_option maxRecDepth 100000 in
theorem expire_some (S : Nat → Prop) (tb : Nat) (L : List Rec) (last now : Int) (w : World) (h : TI S w tb L last) (hsome : ∃ r ∈ L, r.due ≤ now) :
    Calls Try.prog 14 #[.pointer (some ⟨tb, 0, none⟩), .int .u64 now] w fun e w' => ∃ r ∈ L, r.due ≤ now ∧ (∀ r' ∈ L, r.due < r'.due ∨ (r.due = r'.due ∧ r.id ≤ r'.id)) ∧ e = .returned (.tuple #[.int .i64 r.id, r.val, .bool true]) ∧ TI S w' tb (rest L r.id) last ∧ Fr S w w' := by
  obtain ⟨hb, mb, sv, A, blk, cm, hX, hM⟩ := h
  have c0 := hX.hcell
  obtain ⟨e0, h0⟩ : ∃ e0, A[0]? = some e0 := by
    obtain ⟨r, hr, _⟩ := hsome
    obtain ⟨i, hi⟩ := hX.get hr
    have hl := (List.getElem?_eq_some_iff.1 hi).1
    exact ⟨A[0]'(by omega), List.getElem?_eq_getElem _⟩
  obtain ⟨r, hr, rfl⟩ := List.mem_map.1 (hX.perm.mem_iff.1 (List.mem_of_getElem? h0))
  have hmin : ∀ r' ∈ L, r.due < r'.due ∨ (r.due = r'.due ∧ r.id ≤ r'.id) := by
    intro r' hr'
    obtain ⟨j, hj⟩ := hX.get hr'
    have := hX.ord.first h0 j _ hj
    unfold Ent.lt entOf at this
    simp only at this
    omega
  have hdue : r.due ≤ now := by
    obtain ⟨r', hr', hle⟩ := hsome
    have := hmin r' hr'
    omega
  obtain ⟨x, hx⟩ := hX.val r hr
  have HX := Lib.hid (And.intro hX (And.intro hM (And.intro h0 (And.intro hr (And.intro hmin hx)))))
  clear hX hM h0 hr hmin hsome hx
  have hd2 : ¬ (now < r.due) := by omega
  go_enter Try.func14, Try.ntmps14
  go_wp2_with fail
  refine (min_some hb mb sv A last _ _ HX.out.1.heap HX.out.2.2.1).mono ?_
  rintro e w1 ⟨rfl, hf1⟩
  have H1 := Lib.hid (And.intro (HX.out.1.frNo hf1) hf1)
  clear hf1 c0
  simp only [entOf]
  go_wp2_with fail
  refine (cancel_core S tb hb mb sv A blk cm L last r _ H1.out.1 HX.out.2.1 HX.out.2.2.2.1).mono ?_
  rintro e w2 ⟨rfl, hT, hf2, hbk⟩
  have v2 : w2.cell? ⟨blk r.id, 2, none⟩ = some (Value.int .i64 x) := by
    rw [World.cell?_of_block (a := ⟨blk r.id, 2, none⟩) hbk]
    have := (H1.out.1.ncell HX.out.2.2.2.1).2.2
    rw [HX.out.2.2.2.2.2] at this
    exact this
  have H2 := Lib.hid (And.intro hT (H1.out.2.no.trans hf2))
  clear hT hf2 hbk
  go_wp2_with fail
  go_quiet (fail)
  go_wp2_with fail
  refine bodyPost_ret_by (by simp [results]; rfl) rfl ?_
  refine ⟨r, HX.out.2.2.2.1, hdue, HX.out.2.2.2.2.1, by rw [HX.out.2.2.2.2.2], H2.out.1.frNo ?_, H2.out.2.trans ?_⟩
  · exact ⟨rfl, rfl, rfl, Nat.le_refl _, fun _ _ _ => rfl⟩
  · exact ⟨rfl, rfl, rfl, Nat.le_refl _, fun _ _ _ => rfl⟩

theorem desc_miss (S : Nat → Prop) (tb : Nat) (L : List Rec) (last k : Int) (w : World) (h : TI S w tb L last) (hk : (Lit.int .i64 k).wf = true) (hno : ∀ r ∈ L, r.id ≠ k) :
    Calls Try.prog 13 #[.pointer (some ⟨tb, 0, none⟩), .int .i64 k] w fun e w' => e = .returned (.slice none 0 0) ∧ w' = w := by
  obtain ⟨hb, mb, sv, A, blk, cm, hX, hM⟩ := h
  have c0 := hX.hcell
  have HX := Lib.hid (And.intro hX hno)
  clear hX hM hno
  go_enter Try.func13, Try.ntmps13
  go_wp2_with fail
  refine (get_miss hb mb sv A last k _ HX.out.1.heap hk (HX.out.1.miss HX.out.2)).mono ?_
  rintro e w1 ⟨rfl, rfl⟩
  go_wp2_with fail
  go_ret
  exact ⟨rfl, rfl⟩

set_option maxHeartbeats 1000000 in
set_option maxRecDepth 100000 in
theorem desc_hit (S : Nat → Prop) (tb : Nat) (L : List Rec) (last : Int) (q : Rec) (w : World) (h : TI S w tb L last) (hq : q ∈ L) :
    Calls Try.prog 13 #[.pointer (some ⟨tb, 0, none⟩), .int .i64 q.id] w fun e w' => ∃ g o n cap, n + 1 = (fam L q.id).length ∧ e = .returned (.slice (some ⟨g, o, none⟩) n cap) ∧ w.heap.size ≤ g ∧ (∀ (i : Nat) (r : Rec), (fam L q.id)[i + 1]? = some r → w'.cell? ⟨g, o + i, none⟩ = some (.int .i64 r.id)) ∧ Fr No w w' := by
  obtain ⟨hb, mb, sv, A, blk, cm, hX, hM⟩ := h
  have c0 := hX.hcell
  obtain ⟨i, hi⟩ := hX.get hq
  obtain ⟨T, hF⟩ := fam_head hX.wood (hX.wood.id q hq).1 hq rfl
  obtain ⟨n, hn⟩ : ∃ n, (fam L q.id).length = n + 1 := ⟨T.length, by rw [hF]; rfl⟩
  have hn1 : n ≤ 1000 := by have h1 := fam_len L q.id; have h2 := hX.wood.len; have h3 := hX.top; omega
  have HX := Lib.hid (And.intro hX (And.intro hM (And.intro hi (And.intro hq hn))))
  clear hX hM hi hq hF
  go_enter Try.func13, Try.ntmps13
  go_wp2_with fail
  refine (get_hit hb mb sv A last i _ _ HX.out.1.heap HX.out.2.2.1).mono ?_
  rintro e w1 ⟨rfl, hf1⟩
  have H1 := Lib.hid (And.intro (HX.out.1.frNo hf1) hf1)
  clear hf1 c0
  simp only [entOf]
  go_wp2_with fail
  refine (family_any S tb L last q _ ⟨hb, mb, sv, A, blk, cm, H1.out.1, HX.out.2.1⟩ HX.out.2.2.2.1).mono ?_
  rintro e w2 ⟨g, cap, rfl, hrow, hf2⟩
  rw [hn]
  have hcap : n + 1 ≤ cap ∧ cap ≤ maxLen := by
    unfold FamRow at hrow
    rw [hn] at hrow
    rcases hrow.2 with ⟨hv, _⟩ | ⟨g', cap', cur, hv, h1, h2, h3, h4, _⟩
    · cases hv
    · cases hv; exact ⟨h3, h4⟩
  have H2 := Lib.hid (And.intro hrow hf2)
  clear hrow hf2 hn
  unfold maxLen at hcap
  have hbg : Hid (w.heap.size ≤ g ∧ ∀ (i : Nat) (r : Rec), (fam L q.id)[i]? = some r → w2.cell? ⟨g, i, none⟩ = some (.int .i64 r.id)) := by
    have h1 := H2.out.1
    unfold FamRow at h1
    refine ⟨Nat.le_trans H1.out.2.size (h1.lt _ rfl).1, fun i r hr => row_cell h1 (by rw [List.getElem?_map, hr]; rfl)⟩
  by_cases hc1 : cap = 1
  · subst hc1
    obtain rfl : n = 0 := by omega
    clear hcap hn1
    go_wp2_with fail
    all_goals (
      go_ret
      refine ⟨g, _, 0, _, by rw [HX.out.2.2.2.2], rfl, hbg.out.1, fun i r hr => ?_, H1.out.2.trans H2.out.2⟩
      have := (List.getElem?_eq_some_iff.1 hr).1
      have := HX.out.2.2.2.2
      omega)
  · have q1 : (1 : Int) ≤ ((n : Int) + 1) := by omega
    have q2 : ((n : Int) + 1) ≤ (cap : Int) := by omega
    go_wp2_with fail
    all_goals (
      go_ret
      refine ⟨g, _, n, _, HX.out.2.2.2.2.symm, rfl, hbg.out.1, fun i r hr => ?_, H1.out.2.trans H2.out.2⟩
      have := hbg.out.2 (i + 1) r hr
      rw [Nat.add_comm] at this
      exact this)

end Go.Proofs.Ytbgddldkpjeieaa.N
