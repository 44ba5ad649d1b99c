/-
  CONTRACTS of NextDeadline and Handles of the timers of tags, over this seat's translation.
  Conditions: the timers lie in memory as Tim says.
-/
import Derived.Test.YtbgddldkpjeieaaGreatG6
import Derived.Test.YtbgddldkpjeieaaGreatGT1
import Derived.Test.YtbgddldkpjeieaaGreatEq
namespace Go.Proofs.YtbgddldkpjeieaaGreat
open Go.ChangeShapes Go.WideShapes Go.ChangeAt Go.RowKit Go.Maps
set_option linter.unusedVariables false

theorem sort_ids {L : List Rec} (hs : L.Pairwise (fun a b => a.id < b.id)) {xs : List Int} (hp : xs.Perm (L.map Rec.id)) : sorted xs = L.map Rec.id := by
  have tr : ∀ a b c : Int, decide (a ≤ b) = true → decide (b ≤ c) = true → decide (a ≤ c) = true := fun a b c h1 h2 => by simp only [decide_eq_true_eq] at *; omega
  have to : ∀ a b : Int, (decide (a ≤ b) || decide (b ≤ a)) = true := fun a b => by simp only [Bool.or_eq_true, decide_eq_true_eq]; omega
  refine List.Perm.eq_of_pairwise (le := fun a b => decide (a ≤ b) = true) (fun a b _ _ h1 h2 => ?_) (List.pairwise_mergeSort tr to xs) ?_ ((List.mergeSort_perm xs _).trans hp)
  · simp only [decide_eq_true_eq] at h1 h2; omega
  · refine List.pairwise_map.2 (hs.imp fun {a b} hab => ?_)
    simp only [decide_eq_true_eq]; omega

theorem IdRow.owns {w : World} {base rb n : Nat} {B : List Ent} (h : IdRow w rb n B) (hn : B.length = n) (hb : base ≤ rb) (hm : n ≤ 1000) : w.ownsRow base 3 1 (.slice (some ⟨rb, 0, none⟩) n n) n ((B.map Ent.id).map (Value.int .i64)) := by
  obtain ⟨c, h1, h2, h3⟩ := h
  refine ⟨by simp [hn], .inr ⟨rb, n, c, rfl, hb, h1, Nat.le_refl _, by unfold maxLen; omega, by omega, ?_⟩⟩
  refine List.ext_getElem? fun j => ?_
  by_cases hj : j < n
  · obtain ⟨e, he⟩ : ∃ e, B[j]? = some e := ⟨_, List.getElem?_eq_getElem (by omega)⟩
    rw [List.getElem?_take_of_lt (by omega), Array.getElem?_toList, h3 j e he]
    simp [he]
  · rw [List.getElem?_take_eq_none (by omega), List.getElem?_eq_none (by simp; omega)]

namespace G

set_option maxHeartbeats 1000000 in
theorem thandles (S : Nat → Prop) (tb : Nat) (L : List Rec) (last : Int) (w : World) (h : TI S w tb L last) :
    Calls Tryz.prog 33 #[.pointer (some ⟨tb, 0, none⟩)] w fun e w' => ∃ a cap, e = .returned (.slice a L.length cap) ∧ IntsAt w' a L.length (L.map Rec.id) ∧ Fr No w w' := by
  obtain ⟨hb, mb, sv, A, blk, cm, hX, hM⟩ := h
  have c0 := hX.hcell
  have hl : A.length = L.length := by simpa using hX.perm.length_eq
  have hlen : L.length ≤ 1000 := by have := hX.wood.len; have := hX.top; omega
  obtain ⟨n, hn⟩ : ∃ n, L.length = n := ⟨_, rfl⟩
  have HX := Lib.hid (And.intro hX (And.intro hl hn))
  rw [hn] at hlen ⊢
  clear hX hM hl hn
  go_enter Tryz.func33, Tryz.ntmps33
  go_wp2_with fail
  refine (handles_any hb mb sv A last _ HX.out.1.heap).mono ?_
  rintro e w1 ⟨rb, S1, rfl, h1, h2, h3, h4, h5⟩
  have hAn : A.length = n := HX.out.2.1.trans HX.out.2.2
  rw [hAn] at h4 ⊢
  have hS1 : S1.length = n := h2.length_eq.trans hAn
  have hrow := IdRow.owns (base := w.heap.size) h4 hS1 h1 hlen
  have H1 := Lib.hid (And.intro hrow (And.intro h5 (And.intro h2 (And.intro hS1 h1))))
  clear h1 h2 h3 h4 h5 hrow hAn hS1
  go_wp2_with fail
  refine (sort_row w.heap.size rb n (S1.map Ent.id) n _ (by rw [List.length_map]; exact H1.out.2.2.2.1) H1.out.1 hlen).mono ?_
  rintro e w2 ⟨rfl, hrow2, hf2⟩
  have H2 := Lib.hid (And.intro hrow2 hf2)
  clear hrow2 hf2
  go_wp2_with fail
  go_ret
  obtain ⟨hrow, h5, h2, hS1, h1⟩ := H1.out
  have hp : (S1.map Ent.id).Perm (L.map Rec.id) := by
    have := (h2.trans HX.out.1.perm).map Ent.id
    rw [List.map_map] at this
    exact this
  refine ⟨some ⟨rb, 0, none⟩, n, rfl, ?_, ?_⟩
  · have := IntsAt.row H2.out.1
    rw [sort_ids HX.out.1.wood.asc hp] at this
    exact this
  · exact fr_base (h5.no.trans (H2.out.2.mono fun k _ hk => by rw [show k = rb from hk]; exact h1))

theorem tnext_none (S : Nat → Prop) (tb : Nat) (last : Int) (w : World) (h : TI S w tb [] last) :
    Calls Tryz.prog 29 #[.pointer (some ⟨tb, 0, none⟩)] w fun e w' => e = .returned (.tuple #[.int .u64 0, .bool false]) ∧ Fr No w w' := by
  obtain ⟨hb, mb, sv, A, blk, cm, hX, hM⟩ := h
  have c0 := hX.hcell
  have hA : A = [] := hX.perm.eq_nil
  subst hA
  have HX := Lib.hid hX
  clear hX hM
  go_enter Tryz.func29, Tryz.ntmps29
  go_wp2_with fail
  refine (min_empty hb mb sv last _ HX.out.heap).mono ?_
  rintro e w1 ⟨rfl, rfl⟩
  go_wp2_with fail
  refine bodyPost_ret_by (by simp [results]; rfl) rfl ?_
  exact ⟨rfl, Fr.refl _ _⟩

theorem tnext_some (S : Nat → Prop) (tb : Nat) (L : List Rec) (last : Int) (w : World) (h : TI S w tb L last) (hne : L ≠ []) :
    Calls Tryz.prog 29 #[.pointer (some ⟨tb, 0, none⟩)] w fun e w' => ∃ r ∈ L, (∀ r' ∈ L, r.due < r'.due ∨ (r.due = r'.due ∧ r.id ≤ r'.id)) ∧ e = .returned (.tuple #[.int .u64 r.due, .bool true]) ∧ Fr No w w' := by
  obtain ⟨hb, mb, sv, A, blk, cm, hX, hM⟩ := h
  have c0 := hX.hcell
  obtain ⟨e0, h0⟩ : ∃ e0, A[0]? = some e0 := by
    have hl : A.length = L.length := by simpa using hX.perm.length_eq
    have : 0 < L.length := List.length_pos_iff.2 hne
    exact ⟨A[0]'(by omega), List.getElem?_eq_getElem _⟩
  obtain ⟨r, hr, rfl⟩ := List.mem_map.1 (hX.perm.mem_iff.1 (List.mem_of_getElem? h0))
  have hmin : ∀ r' ∈ L, r.due < r'.due ∨ (r.due = r'.due ∧ r.id ≤ r'.id) := by
    intro r' hr'
    obtain ⟨j, hj⟩ := hX.get hr'
    have := hX.ord.first h0 j _ hj
    unfold Ent.lt entOf at this
    simp only at this
    omega
  have HX := Lib.hid (And.intro hX (And.intro h0 (And.intro hr hmin)))
  clear hX hM h0 hr hmin hne
  go_enter Tryz.func29, Tryz.ntmps29
  go_wp2_with fail
  refine (min_some hb mb sv A last _ _ HX.out.1.heap HX.out.2.1).mono ?_
  rintro e w1 ⟨rfl, hf1⟩
  have H1 := Lib.hid hf1
  clear hf1
  simp only [entOf]
  go_wp2_with fail
  refine bodyPost_ret_by (by simp [results]; rfl) rfl ?_
  exact ⟨r, HX.out.2.2.1, HX.out.2.2.2, rfl, H1.out⟩

end G
end Go.Proofs.YtbgddldkpjeieaaGreat
