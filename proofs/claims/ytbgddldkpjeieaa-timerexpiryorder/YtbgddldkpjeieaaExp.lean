/-
  Root timers: a removal takes one away; how many are due.
  Conditions: as each theorem says.
-/
import Derived.Test.YtbgddldkpjeieaaRow
import Derived.Test.YtbgddldkpjeieaaNT5
namespace Go.Proofs.Ytbgddldkpjeieaa
open Go.ChangeShapes Go.WideShapes Go.ChangeAt Go.RowKit Go.Maps
set_option linter.unusedVariables false

def rootAt (z : Nat → Int) (i : Nat) : Rec := ⟨(i : Int) + 1, z i, 0, .int .i64 i⟩
def roots (z : Nat → Int) (n : Nat) : List Rec := (List.range n).map (rootAt z)

theorem roots_succ (z : Nat → Int) (n : Nat) : roots z n ++ [⟨(n : Int) + 1, z n, 0, .int .i64 n⟩] = roots z (n + 1) := by
  unfold roots; rw [List.range_succ, List.map_append]; rfl
theorem roots_length (z : Nat → Int) (n : Nat) : (roots z n).length = n := by simp [roots]
theorem roots_mem {z : Nat → Int} {n : Nat} {r : Rec} (h : r ∈ roots z n) : ∃ j, j < n ∧ r = rootAt z j := by
  obtain ⟨j, hj, rfl⟩ := List.mem_map.1 h; exact ⟨j, List.mem_range.1 hj, rfl⟩

def dueN (L : List Rec) (now : Int) : Nat := (L.filter (fun r => decide (r.due ≤ now))).length

theorem dueN_snoc (L : List Rec) (now : Int) (r : Rec) : dueN (L ++ [r]) now = dueN L now + (if r.due ≤ now then 1 else 0) := by
  unfold dueN
  rw [List.filter_append, List.length_append]
  by_cases h : r.due ≤ now <;> simp [h]

theorem dueN_le (L : List Rec) (now : Int) : dueN L now ≤ L.length := List.length_filter_le _ _

theorem dueN_pos {L : List Rec} {now : Int} (h : 0 < dueN L now) : ∃ r ∈ L, r.due ≤ now := by
  obtain ⟨r, hr⟩ := List.exists_mem_of_length_pos h
  obtain ⟨h1, h2⟩ := List.mem_filter.1 hr
  exact ⟨r, h1, of_decide_eq_true h2⟩

theorem dueN_zero {L : List Rec} {now : Int} (h : dueN L now = 0) : ∀ r ∈ L, now < r.due := by
  intro r hr
  have h1 := List.filter_eq_nil_iff.1 (List.length_eq_zero_iff.1 h) r hr
  simp at h1
  omega

theorem flat_under {L : List Rec} (hf : ∀ r ∈ L, r.par = 0) {k x : Int} (hk : 1 ≤ k) (h : Under L k x) : x = k := by
  induction h with
  | self => rfl
  | step r hr _ ih => have := hf r hr; omega

theorem flat_fam {L : List Rec} {last : Int} (h : Wood L last) (hf : ∀ r ∈ L, r.par = 0) {r : Rec} (hr : r ∈ L) : fam L r.id = [r] := by
  have h1 := (h.id r hr).1
  obtain ⟨T, hT⟩ := fam_head h h1 hr rfl
  cases T with
  | nil => exact hT
  | cons t T =>
    have ht : t ∈ fam L r.id := by rw [hT]; simp
    have h2 := flat_under hf h1 (mem_fam.1 ht).2
    have h3 : (fam L r.id).Pairwise (fun a b => a.id < b.id) := h.asc.filter _
    rw [hT] at h3
    have := (List.pairwise_cons.1 h3).1 t (by simp)
    omega

theorem flat_rest {L : List Rec} {last now : Int} (h : Wood L last) (hf : ∀ r ∈ L, r.par = 0) {r : Rec} (hr : r ∈ L) : (rest L r.id).length + 1 = L.length ∧ (r.due ≤ now → dueN (rest L r.id) now + 1 = dueN L now) := by
  have h1 := flat_fam h hf hr
  have h2 := fam_len L r.id
  rw [h1] at h2
  refine ⟨by simp at h2; omega, fun hd => ?_⟩
  have h3 := ((fam_rest L r.id).filter (fun r => decide (r.due ≤ now))).length_eq
  rw [h1, List.filter_append, List.length_append] at h3
  unfold dueN
  simp [hd] at h3
  omega

end Go.Proofs.Ytbgddldkpjeieaa
