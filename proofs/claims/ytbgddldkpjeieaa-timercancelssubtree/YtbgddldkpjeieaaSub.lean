/-
  The list of parents that the law TimerCancelsSubtree keeps, in memory and beside the tree; no walk.
  Conditions: as each theorem says.
-/
import Derived.Test.YtbgddldkpjeieaaChain
namespace Go.Proofs.Ytbgddldkpjeieaa
open Go.ChangeShapes Go.WideShapes Go.ChangeAt Go.RowKit Go.Maps
set_option linter.unusedVariables false

def OvAt (w : World) (ob : Nat) (xs : List Int) : Prop := ∃ cur : Array Value, w.heap[ob]? = some (.cells cur 3 (0, 0)) ∧ cur.toList = xs.map (Value.int .i64)

theorem OvAt.keep {w w' : World} {ob : Nat} {xs : List Int} (h : OvAt w ob xs) (hk : w'.heap[ob]? = w.heap[ob]?) : OvAt w' ob xs := by
  obtain ⟨cur, h1, h2⟩ := h; exact ⟨cur, hk.trans h1, h2⟩

theorem OvAt.lt {w : World} {ob : Nat} {xs : List Int} (h : OvAt w ob xs) : ob < w.heap.size := by
  obtain ⟨cur, h1, h2⟩ := h; exact (Array.getElem?_eq_some_iff.1 h1).1

theorem OvAt.cell {w : World} {ob : Nat} {xs : List Int} (h : OvAt w ob xs) {j : Nat} {x : Int} (hx : xs[j]? = some x) : w.cell? ⟨ob, j, none⟩ = some (.int .i64 x) := by
  obtain ⟨cur, h1, h2⟩ := h
  have h3 := congrArg (fun l => l[j]?) h2
  simp only [Array.getElem?_toList, List.getElem?_map, hx, Option.map_some] at h3
  simp [World.cell?, h1, h3]

theorem OvAt.frozen {w : World} {ob : Nat} {xs : List Int} (h : OvAt w ob xs) (j : Nat) : w.frozen? ⟨ob, j, none⟩ = false := by
  obtain ⟨cur, h1, h2⟩ := h; exact frozen_of_row w ob j _ _ h1

theorem OvAt.set {w : World} {ob : Nat} {xs : List Int} (h : OvAt w ob xs) (j : Nat) (x : Int) : OvAt (w.setCell ⟨ob, j, none⟩ (.int .i64 x)) ob (xs.set j x) := by
  obtain ⟨cur, h1, h2⟩ := h
  refine ⟨_, heap_setCell_same w ob j _ _ _ h1, ?_⟩
  simp [h2]

/-- The tree beside its list of parents: the first i of them are there. -/
structure Grove (L : List Rec) (xs : List Int) (i n : Nat) : Prop where
  len : L.length = i
  xlen : xs.length = n + 1
  at_ : ∀ r ∈ L, ∃ j : Nat, r.id = (j : Int) ∧ xs[j]? = some r.par
  has : ∀ k : Nat, 1 ≤ k → k ≤ i → ∃ r ∈ L, r.id = (k : Int)

theorem Grove.nil (n : Nat) : Grove [] (List.replicate (n + 1) 0) 0 n := ⟨rfl, by simp, by simp, fun k h1 h2 => by omega⟩

theorem Grove.start {L : List Rec} {xs : List Int} {i n : Nat} {last : Int} (h : Grove L xs i n) (hw : Wood L last) (hl : last = i) (hi : i < n) (d p : Int) (v : Value) : Grove (L ++ [⟨(i : Int) + 1, d, p, v⟩]) (xs.set (i + 1) p) (i + 1) n := by
  have hx := h.xlen
  refine ⟨by simp [h.len], by simp [hx], fun r hr => ?_, fun k h1 h2 => ?_⟩
  · rcases List.mem_append.1 hr with hr | hr
    · obtain ⟨j, hj, hx⟩ := h.at_ r hr
      have := hw.id r hr
      exact ⟨j, hj, by rw [List.getElem?_set_ne (by omega)]; exact hx⟩
    · simp at hr; subst hr
      exact ⟨i + 1, by simp, by rw [List.getElem?_set_self (by omega)]⟩
  · by_cases hk : k = i + 1
    · exact ⟨⟨(i : Int) + 1, d, p, v⟩, by simp, by simp [hk]⟩
    · obtain ⟨r, hr, he⟩ := h.has k h1 (by omega)
      exact ⟨r, List.mem_append_left _ hr, he⟩

/-- One step up. -/
theorem Grove.up {L : List Rec} {xs : List Int} {i n : Nat} {last k : Int} (h : Grove L xs i n) (hw : Wood L last) (hk : 1 ≤ k) {j : Nat} (h1 : 1 ≤ j) (h2 : j ≤ i) : ∃ p : Nat, xs[j]? = some (p : Int) ∧ p < j ∧ (Under L k (j : Int) ↔ (j : Int) = k ∨ (0 < p ∧ Under L k (p : Int))) := by
  obtain ⟨r, hr, he⟩ := h.has j h1 h2
  obtain ⟨j', hj', hx⟩ := h.at_ r hr
  obtain rfl : j' = j := by omega
  have hp := hw.par_lt hr
  refine ⟨r.par.toNat, by rw [hx]; congr 1; omega, by omega, ?_⟩
  have hpe : ((r.par.toNat : Nat) : Int) = r.par := by omega
  rw [hpe, ← he]
  constructor
  · intro hu
    rcases hw.under_inv hr hu with e | e
    · exact .inl e
    · refine .inr ⟨?_, e⟩
      have := hw.under_le hk e
      omega
  · rintro (e | ⟨_, e⟩)
    · rw [e]; exact .self
    · exact .step r hr e

end Go.Proofs.Ytbgddldkpjeieaa
