/-
  The ring buffer beside the list that it is compared with; no walk.
  Conditions: as each theorem says.
-/
import Derived.Test.YtmgpeonnmfidhaaOps
namespace Go.Proofs.Ytmgpeonnmfidhaa
open Go.ChangeShapes Go.WideShapes Go.ChangeAt Go.RowKit
set_option linter.unusedVariables false

/-- The ring buffer holds Q, and so does the slice beside it; the blocks of E are neither's. -/
structure Md (w wr : World) (hb k : Nat) (Q : List Int) (xa : Option Addr) (c xc : Nat) (E : Nat → Prop) : Prop where
  uno : Uno w wr (fun j => (0 < c ∧ Blk xa j) ∨ E j) hb Q k
  at_ : At wr xa Q
  len : Q.length = c
  cap : c ≤ xc
  fits : xc ≤ 9223372036854775807
  nil : xa = none → xc = 0

section
variable {w wr w' : World} {hb k c xc : Nat} {Q : List Int} {xa : Option Addr} {E E' : Nat → Prop}

theorem Md.frNo (h : Md w wr hb k Q xa c xc E) (hf : Fr No wr w') : Md w w' hb k Q xa c xc E := ⟨h.uno.frNo hf, h.at_.frNo hf, h.len, h.cap, h.fits, h.nil⟩
theorem Md.frNew (h : Md w wr hb k Q xa c xc E) (hf : Fr No wr w') : Md w w' hb k Q xa c xc (fun j => E j ∨ (wr.heap.size ≤ j ∧ j < w'.heap.size)) :=
  ⟨(h.uno.frNew hf).less (fun j hj => by rcases hj with h | h | h; exact .inl (.inl h); exact .inl (.inr h); exact .inr h), h.at_.frNo hf, h.len, h.cap, h.fits, h.nil⟩
theorem Md.less (h : Md w wr hb k Q xa c xc E) (hE : ∀ j, E' j → E j) : Md w wr hb k Q xa c xc E' := ⟨h.uno.less fun j hj => by rcases hj with h | h; exact .inl h; exact .inr (hE j h), h.at_, h.len, h.cap, h.fits, h.nil⟩
theorem Md.elt (h : Md w wr hb k Q xa c xc E) {j : Nat} (hj : E j) : j < wr.heap.size := h.uno.zlt (.inr hj)
theorem Md.ck (h : Md w wr hb k Q xa c xc E) : c ≤ k ∧ k ≤ 4096 := by have := h.uno.len; rw [h.len] at this; exact this
theorem Md.box (h : Md w wr hb k Q xa c xc E) (o : Obj) : Md w (wr.alloc o) hb k Q xa c xc (fun j => E j ∨ j = wr.heap.size) :=
  (h.frNew (Fr.alloc No wr o)).less fun j hj => by
    rcases hj with hj | rfl
    · exact .inl hj
    · exact .inr ⟨Nat.le_refl _, by simp⟩

/-- What the slice holds is as it was where its block is. -/
theorem Md.keep (h : Md w wr hb k Q xa c xc E) (hk : ∀ j, (0 < c ∧ Blk xa j) ∨ E j → w'.heap[j]? = wr.heap[j]?) : At w' xa Q := by
  by_cases h0 : 0 < c
  · exact h.at_.keep fun ad ha hb => hk _ (.inl ⟨h0, ad, ha, rfl⟩)
  · obtain rfl : Q = [] := List.eq_nil_of_length_eq_zero (by have := h.len; omega)
    exact At.nil _ _

/-- The first m elements leave the slice. -/
theorem Md.cut {m : Nat} (h : Uno w wr (fun j => (0 < c ∧ Blk xa j) ∨ E j) hb (Q.drop m) k) (hx : At wr xa Q) (hl : Q.length = c) (hcap : c ≤ xc) (hf : xc ≤ 9223372036854775807) (hm : m ≤ c) (hne : m ≠ xc) (hn : xa = none → xc = 0) :
    Md w wr hb k (Q.drop m) (Option.map (fun x => x.add m) xa) (c - m) (xc - m) E := by
  refine ⟨h.less fun j hj => ?_, hx.dropMap m, by rw [List.length_drop, hl], by omega, by omega, ?_⟩
  · rcases hj with ⟨h0, ad, ha, rfl⟩ | hj
    · obtain ⟨ad', ha', rfl⟩ := Option.map_eq_some_iff.1 ha
      refine .inl ⟨by omega, ad', ha', ?_⟩
      unfold Addr.add
      split <;> rfl
    · exact .inr hj
  · intro e
    have := hn (by simpa using e)
    omega
end

theorem md_born {w w1 : World} {hb k : Nat} (h : Uno w w1 No hb [] k) : Md w w1 hb k [] none 0 0 No :=
  ⟨h.less fun j hj => by
    rcases hj with ⟨h, _⟩ | h
    · omega
    · exact h.elim, At.nil _ _, rfl, Nat.le_refl _, by omega, fun _ => rfl⟩

end Go.Proofs.Ytmgpeonnmfidhaa
