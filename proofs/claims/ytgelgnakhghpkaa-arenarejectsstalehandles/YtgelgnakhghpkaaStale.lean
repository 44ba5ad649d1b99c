/-
  An arena of one slot beside two endpoints and a row of handles; no walk.
  Conditions: as each theorem says.
-/
import Derived.Test.YtgelgnakhghpkaaP5
import Derived.Test.YtgelgnakhghpkaaLow
namespace Go.Proofs.Ytgelgnakhghpkaa
open Go.ChangeShapes Go.WideShapes Go.ChangeAt Go.RowKit
set_option linter.unusedVariables false

abbrev UP := Uno P.V 80 82 4

structure St (w wr : World) (xb yb hb : Nat) (x0 x1 y0 y1 : Int) (lv : Value) (n : Nat) (L : List (Int × Int)) (A : List Slot) (B : Int) (E : Nat → Prop) : Prop where
  uno : UP w wr (fun j => j = xb ∨ j = yb ∨ lv.ownBlock = some j ∨ E j) hb A 1 B
  xx : wr.heap[xb]? = some (.cells #[.int .i64 x0, .int .i64 x1] 52 (0, 0))
  yy : wr.heap[yb]? = some (.cells #[.int .i64 y0, .int .i64 y1] 52 (0, 0))
  row : wr.ownsRow 0 38 2 lv n (flatH L)

section
variable {w wr w' : World} {xb yb hb : Nat} {x0 x1 y0 y1 : Int} {lv : Value} {n : Nat} {L : List (Int × Int)} {A : List Slot} {B : Int} {E : Nat → Prop}

theorem St.keep (h : St w wr xb yb hb x0 x1 y0 y1 lv n L A B E) {A' : List Slot} {B' : Int} (hu : UP w w' (fun j => j = xb ∨ j = yb ∨ lv.ownBlock = some j ∨ E j) hb A' 1 B') (hz : ∀ k, (k = xb ∨ k = yb ∨ lv.ownBlock = some k ∨ E k) → w'.heap[k]? = wr.heap[k]?) : St w w' xb yb hb x0 x1 y0 y1 lv n L A' B' E :=
  ⟨hu, (hz xb (.inl rfl)).trans h.xx, (hz yb (.inr (.inl rfl))).trans h.yy, row_keep h.row fun k hk => hz k (.inr (.inr (.inl hk)))⟩

theorem St.frNo (h : St w wr xb yb hb x0 x1 y0 y1 lv n L A B E) (hf : Fr No wr w') : St w w' xb yb hb x0 x1 y0 y1 lv n L A B E :=
  h.keep (h.uno.frNo hf) fun k hk => hf.block k (h.uno.zlt hk) fun h => h

theorem St.less {E' : Nat → Prop} (h : St w wr xb yb hb x0 x1 y0 y1 lv n L A B E) (hE : ∀ k, E' k → E k) : St w wr xb yb hb x0 x1 y0 y1 lv n L A B E' :=
  ⟨h.uno.less fun k hk => by rcases hk with h | h | h | h; exact .inl h; exact .inr (.inl h); exact .inr (.inr (.inl h)); exact .inr (.inr (.inr (hE k h))), h.xx, h.yy, h.row⟩

theorem St.box (h : St w wr xb yb hb x0 x1 y0 y1 lv n L A B E) (o : Obj) : St w (wr.alloc o) xb yb hb x0 x1 y0 y1 lv n L A B (fun k => E k ∨ k = wr.heap.size) := by
  have h1 := h.frNo (Fr.alloc No wr o)
  refine ⟨(h.uno.box o).less fun k hk => ?_, h1.xx, h1.yy, h1.row⟩
  rcases hk with h | h | h | h | h
  · exact .inl (.inl h)
  · exact .inl (.inr (.inl h))
  · exact .inl (.inr (.inr (.inl h)))
  · exact .inl (.inr (.inr (.inr h)))
  · exact .inr h

theorem St.elt (h : St w wr xb yb hb x0 x1 y0 y1 lv n L A B E) {k : Nat} (hk : E k) : k < wr.heap.size := h.uno.zlt (.inr (.inr (.inr hk)))

theorem St.t (h : St w wr xb yb hb x0 x1 y0 y1 lv n L A B E) : ∃ S, P.AI S wr hb A 1 B ∧ (∀ k, wr.heap.size ≤ k → S k) ∧ ∀ (w' : World) (A' : List Slot) (B' : Int), P.AI S w' hb A' 1 B' → Fr S wr w' → St w w' xb yb hb x0 x1 y0 y1 lv n L A' B' E ∧ ∀ k, E k → w'.heap[k]? = wr.heap[k]? := by
  obtain ⟨S, h1, h2, h3⟩ := h.uno.t
  refine ⟨S, h1, h2, fun w' A' B' hA hf => ?_⟩
  obtain ⟨h4, h5⟩ := h3 w' A' B' hA hf
  exact ⟨h.keep h4 h5, fun k hk => h5 k (.inr (.inr (.inr hk)))⟩

theorem St.append {la : Option Addr} {cp g cp2 : Nat} {p : Int × Int} (h : St w wr xb yb hb x0 x1 y0 y1 (.slice la n cp) n L A B (fun _ => False)) {wa w2 : World} (hf : Fr No wr wa) (hown : w2.ownsRow 0 38 2 (.slice (some ⟨g, 0, none⟩) (n + 1) cp2) (n + 1) (flatH L ++ [.int .i64 p.1, .int .i64 p.2])) (hgrow : wa.grownBy w2 (Value.slice la n cp).ownBlock) (hat : (Value.slice la n cp).ownBlock = some g ∨ wa.heap.size ≤ g) (hlt : g < w2.heap.size) (hxl : (Value.slice la n cp).ownBlock ≠ some xb) (hyl : (Value.slice la n cp).ownBlock ≠ some yb) :
    St w w2 xb yb hb x0 x1 y0 y1 (.slice (some ⟨g, 0, none⟩) (n + 1) cp2) (n + 1) (L ++ [p]) A B (fun _ => False) := by
  have h1 := h.frNo hf
  have hsz := hf.size
  refine ⟨h.uno.turn (T := fun k => (Value.slice la n cp).ownBlock = some k) (hf.no.trans (Fr.grown hgrow fun k hk => hk)) (fun k hk => .inr (.inr (.inl hk))) fun k hk => ?_, ?_, ?_, by rw [flatH_append]; exact hown⟩
  · rcases hk with h2 | h2 | h2 | h2
    · exact .inl (.inl h2)
    · exact .inl (.inr (.inl h2))
    · simp [Value.ownBlock] at h2
      subst h2
      rcases hat with h3 | h3
      · exact .inl (.inr (.inr (.inl h3)))
      · exact .inr ⟨by omega, hlt⟩
    · exact h2.elim
  · exact (hgrow.block xb (Array.getElem?_eq_some_iff.1 h1.xx).1 (fun e => hxl e.symm)).trans h1.xx
  · exact (hgrow.block yb (Array.getElem?_eq_some_iff.1 h1.yy).1 (fun e => hyl e.symm)).trans h1.yy

/-- The row of handles is no endpoint's block. -/
theorem St.apart (h : St w wr xb yb hb x0 x1 y0 y1 lv n L A B E) : lv.ownBlock ≠ some xb ∧ lv.ownBlock ≠ some yb := by
  refine ⟨fun e => ?_, fun e => ?_⟩
  · rcases h.row.2 with ⟨hv, _⟩ | ⟨g, cap, cur, hv, _, hg, _⟩
    · rw [hv] at e; cases e
    · rw [hv] at e
      simp [Value.ownBlock] at e
      rw [e, h.xx] at hg
      cases hg
  · rcases h.row.2 with ⟨hv, _⟩ | ⟨g, cap, cur, hv, _, hg, _⟩
    · rw [hv] at e; cases e
    · rw [hv] at e
      simp [Value.ownBlock] at e
      rw [e, h.yy] at hg
      cases hg
end

def stale (n : Nat) : List Slot := if n = 0 then [] else [⟨false, n, P.zs⟩]
def gens (n : Nat) : List (Int × Int) := (List.range n).map fun (j : Nat) => ((0 : Int), (j : Int) + 1)
theorem gens_succ (n : Nat) : gens (n + 1) = gens n ++ [((0 : Int), (n : Int) + 1)] := by simp [gens, List.range_succ]
theorem gens_get {n j : Nat} (h : j < n) : (gens n)[j]? = some ((0 : Int), (j : Int) + 1) := by simp [gens, h]

theorem put_stale {n i : Nat} {gn : Int} {vs : List Value} {A' : List Slot} (h : Put (stale n) i gn vs A') : i = 0 ∧ gn = (n : Int) + 1 ∧ A' = [⟨true, (n : Int) + 1, vs⟩] := by
  unfold stale at h
  by_cases hn : n = 0
  · rw [if_pos hn] at h
    subst hn
    exact h.first
  · rw [if_neg hn] at h
    exact h.again

theorem stale_cnt (n : Nat) : cnt (stale n) = 0 := by
  unfold stale
  split <;> rfl

theorem stale_freed (n : Nat) (vs : List Value) : ([(⟨true, (n : Int) + 1, vs⟩ : Slot)].set 0 ⟨false, (n : Int) + 1, P.zs⟩) = stale (n + 1) := by
  unfold stale
  rw [if_neg (by omega)]
  simp

theorem old_dead {t j : Nat} {vs : List Value} (h : j < t) : ∀ (i : Nat) (s : Slot), ¬ P.Live [⟨true, (t : Int) + 1, vs⟩] 0 ((j : Int) + 1) i s := by
  rintro i s ⟨h1, h2, h3, h4⟩
  obtain rfl : i = 0 := by omega
  cases h2
  simp at h4
  omega

end Go.Proofs.Ytgelgnakhghpkaa
