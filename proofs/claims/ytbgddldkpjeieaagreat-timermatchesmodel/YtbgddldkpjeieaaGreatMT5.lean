/-
  CONTRACTS of Expire and Descendants of the timers at one value type, over this seat's translation: what each call returns, what it leaves in memory.
  Conditions: the timers lie in memory as Tim says.
-/
import Derived.Test.YtbgddldkpjeieaaGreatMT4
namespace Go.Proofs.YtbgddldkpjeieaaGreat.M
open Go.ChangeShapes Go.WideShapes Go.ChangeAt Go.RowKit Go.Maps
set_option linter.unusedVariables false

set_option maxHeartbeats 1000000 in
set_option maxRecDepth 100000 in
theorem expire_none (S : Nat → Prop) (tb : Nat) (L : List Rec) (last now : Int) (w : World) (h : TI S w tb L last) (hno : ∀ r ∈ L, now < r.due) :
    Calls Tryz.prog 40 #[.pointer (some ⟨tb, 0, none⟩), .int .u64 now] w fun e w' => e = .returned (.tuple #[.int .i64 0, .string ByteArray.empty, .bool false]) ∧ Fr No w w' := by
  obtain ⟨hb, mb, sv, A, blk, cm, hX, hM⟩ := h
  have c0 := hX.hcell
  have HX := Lib.hid hX
  cases hA : A with
  | nil =>
    subst hA
    clear hX hM hno
    go_enter Tryz.func40, Tryz.ntmps40
    go_wp2_with fail
    refine (min_empty hb mb sv last _ HX.out.heap).mono ?_
    rintro e w1 ⟨rfl, rfl⟩
    go_wp2_with fail
    refine bodyPost_ret_by (by simp [results]; rfl) rfl ?_
    exact ⟨rfl, Fr.refl _ _⟩
  | cons e0 A' =>
    have h0 : A[0]? = some e0 := by rw [hA]; rfl
    obtain ⟨r, hr, he⟩ := List.mem_map.1 (hX.perm.mem_iff.1 (List.mem_of_getElem? h0))
    have hlt := hno r hr
    have HA' := Lib.hid h0
    clear hX hM hno hA h0
    subst he
    go_enter Tryz.func40, Tryz.ntmps40
    go_wp2_with fail
    refine (min_some hb mb sv A last _ _ HX.out.heap HA'.out).mono ?_
    rintro e w1 ⟨rfl, hf1⟩
    simp only [entOf]
    go_wp2_with fail
    refine bodyPost_ret_by (by simp [results]; rfl) rfl ?_
    exact ⟨rfl, hf1⟩

set_option maxHeartbeats 1000000 in
set_option maxRecDepth 100000 in
theorem expire_some (S : Nat → Prop) (tb : Nat) (L : List Rec) (last now : Int) (w : World) (h : TI S w tb L last) (hsome : ∃ r ∈ L, r.due ≤ now) :
    Calls Tryz.prog 40 #[.pointer (some ⟨tb, 0, none⟩), .int .u64 now] w fun e w' => ∃ r ∈ L, r.due ≤ now ∧ (∀ r' ∈ L, r.due < r'.due ∨ (r.due = r'.due ∧ r.id ≤ r'.id)) ∧ e = .returned (.tuple #[.int .i64 r.id, r.val, .bool true]) ∧ TI S w' tb (rest L r.id) last ∧ Fr S w w' := by
  obtain ⟨hb, mb, sv, A, blk, cm, hX, hM⟩ := h
  have c0 := hX.hcell
  obtain ⟨e0, h0⟩ : ∃ e0, A[0]? = some e0 := by
    obtain ⟨r, hr, _⟩ := hsome
    obtain ⟨i, hi⟩ := hX.get hr
    have hl := (List.getElem?_eq_some_iff.1 hi).1
    exact ⟨A[0]'(by omega), List.getElem?_eq_getElem _⟩
  obtain ⟨r, hr, rfl⟩ := List.mem_map.1 (hX.perm.mem_iff.1 (List.mem_of_getElem? h0))
  have hmin : ∀ r' ∈ L, r.due < r'.due ∨ (r.due = r'.due ∧ r.id ≤ r'.id) := by
    intro r' hr'
    obtain ⟨j, hj⟩ := hX.get hr'
    have := hX.ord.first h0 j _ hj
    unfold Ent.lt entOf at this
    simp only at this
    omega
  have hdue : r.due ≤ now := by
    obtain ⟨r', hr', hle⟩ := hsome
    have := hmin r' hr'
    omega
  obtain ⟨x, hx⟩ := hX.val r hr
  have HX := Lib.hid (And.intro hX (And.intro hM (And.intro h0 (And.intro hr (And.intro hmin hx)))))
  clear hX hM h0 hr hmin hsome hx
  have hd2 : ¬ (now < r.due) := by omega
  go_enter Tryz.func40, Tryz.ntmps40
  go_wp2_with fail
  refine (min_some hb mb sv A last _ _ HX.out.1.heap HX.out.2.2.1).mono ?_
  rintro e w1 ⟨rfl, hf1⟩
  have H1 := Lib.hid (And.intro (HX.out.1.frNo hf1) hf1)
  clear hf1 c0
  simp only [entOf]
  go_wp2_with fail
  refine (cancel_core S tb hb mb sv A blk cm L last r _ H1.out.1 HX.out.2.1 HX.out.2.2.2.1).mono ?_
  rintro e w2 ⟨rfl, hT, hf2, hbk⟩
  have hnb := hbk.trans (H1.out.1.node r HX.out.2.2.2.1)
  rw [HX.out.2.2.2.2.2] at hnb
  have hnb' : w2.heap[blk r.id]? = some (.cells #[.int .i64 r.par, .map (cm r.id), .string x] 94 (0, 0)) := hnb
  have v2 : w2.cell? ⟨blk r.id, 2, none⟩ = some (.string x) := by simp [World.cell?, hnb']
  clear hnb hnb'
  have H2 := Lib.hid (And.intro hT (H1.out.2.no.trans hf2))
  clear hT hf2 hbk
  go_wp2_with fail
  go_quiet (fail)
  go_wp2_with fail
  refine bodyPost_ret_by (by simp [results]; rfl) rfl ?_
  refine ⟨r, HX.out.2.2.2.1, hdue, HX.out.2.2.2.2.1, by rw [HX.out.2.2.2.2.2], H2.out.1.frNo ?_, H2.out.2.trans ?_⟩
  · exact ⟨rfl, rfl, rfl, Nat.le_refl _, fun _ _ _ => rfl⟩
  · exact ⟨rfl, rfl, rfl, Nat.le_refl _, fun _ _ _ => rfl⟩


end Go.Proofs.YtbgddldkpjeieaaGreat.M
