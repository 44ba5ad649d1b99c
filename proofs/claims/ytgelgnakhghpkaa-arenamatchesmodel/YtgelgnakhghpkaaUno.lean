/-
  One arena beside blocks that are not its own; no walk.
  Conditions: as each theorem says.
-/
import Derived.Test.YtgelgnakhghpkaaPut
namespace Go.Proofs.Ytgelgnakhghpkaa
open Go.ChangeShapes Go.WideShapes Go.ChangeAt Go.RowKit
set_option linter.unusedVariables false

/-- An arena made by the call that began in w0; the blocks of Z were made by it too and are not the arena's. -/
def Uno (V : List Value → Prop) (st en : TypeId) (K : Nat) (w0 w : World) (Z : Nat → Prop) (hb : Nat) (A : List Slot) (size : Nat) (B : Int) : Prop :=
  ∃ S : Nat → Prop, ArenaAt V st en K S w hb A size B ∧ (∀ k, S k → w0.heap.size ≤ k ∧ k < w.heap.size) ∧ (∀ k, Z k → (w0.heap.size ≤ k ∧ k < w.heap.size) ∧ ¬ S k) ∧ Fr (fun k => w0.heap.size ≤ k) w0 w

section
variable {V : List Value → Prop} {st en : TypeId} {K : Nat} {w0 w w' : World} {Z Z' T : Nat → Prop} {hb : Nat} {A : List Slot} {size : Nat} {B : Int}

theorem Uno.fr (h : Uno V st en K w0 w Z hb A size B) : Fr (fun k => w0.heap.size ≤ k) w0 w := by
  obtain ⟨S, _, _, _, h⟩ := h; exact h

theorem Uno.good (h : Uno V st en K w0 w Z hb A size B) : Sound V A size B := by
  obtain ⟨S, h, _⟩ := h; exact h.good

theorem Uno.zlt (h : Uno V st en K w0 w Z hb A size B) {k : Nat} (hk : Z k) : k < w.heap.size := by
  obtain ⟨S, _, _, h, _⟩ := h; exact (h k hk).1.2

theorem Uno.at_ (h : Uno V st en K w0 w Z hb A size B) : ∃ S, ArenaAt V st en K S w hb A size B := by
  obtain ⟨S, h, _⟩ := h; exact ⟨S, h⟩

/-- What is not the arena's may change; new blocks may be kept. -/
theorem Uno.turn (h : Uno V st en K w0 w Z hb A size B) (hf : Fr T w w') (hT : ∀ k, T k → Z k) (hZ : ∀ k, Z' k → Z k ∨ (w.heap.size ≤ k ∧ k < w'.heap.size)) : Uno V st en K w0 w' Z' hb A size B := by
  obtain ⟨S, h1, h2, h3, h4⟩ := h
  have hs := hf.size
  have hz := h4.size
  refine ⟨S, h1.fr hf (fun k hk ht => (h3 k (hT k ht)).2 hk), fun k hk => ⟨(h2 k hk).1, Nat.lt_of_lt_of_le (h2 k hk).2 hs⟩, fun k hk => ?_, h4.trans (hf.mono fun k _ ht => (h3 k (hT k ht)).1.1)⟩
  rcases hZ k hk with hk | ⟨hk, hk'⟩
  · exact ⟨⟨(h3 k hk).1.1, Nat.lt_of_lt_of_le (h3 k hk).1.2 hs⟩, (h3 k hk).2⟩
  · exact ⟨⟨by omega, hk'⟩, fun hS => by have := (h2 k hS).2; omega⟩

theorem Uno.frNo (h : Uno V st en K w0 w Z hb A size B) (hf : Fr No w w') : Uno V st en K w0 w' Z hb A size B := h.turn hf (fun k hk => hk.elim) fun k hk => .inl hk
theorem Uno.less (h : Uno V st en K w0 w Z hb A size B) (hz : ∀ k, Z' k → Z k) : Uno V st en K w0 w Z' hb A size B := h.turn (Fr.refl No w) (fun k hk => hk.elim) fun k hk => .inl (hz k hk)
theorem Uno.box (h : Uno V st en K w0 w Z hb A size B) (o : Obj) : Uno V st en K w0 (w.alloc o) (fun k => Z k ∨ k = w.heap.size) hb A size B :=
  h.turn (Fr.alloc No w o) (fun k hk => hk.elim) fun k hk => by
    rcases hk with hk | rfl
    · exact .inl hk
    · exact .inr ⟨Nat.le_refl _, by simp⟩

/-- A call on the arena. -/
theorem Uno.t (h : Uno V st en K w0 w Z hb A size B) : ∃ S, ArenaAt V st en K S w hb A size B ∧ (∀ k, w.heap.size ≤ k → S k) ∧ ∀ (w' : World) (A' : List Slot) (B' : Int), ArenaAt V st en K S w' hb A' size B' → Fr S w w' → Uno V st en K w0 w' Z hb A' size B' ∧ ∀ k, Z k → w'.heap[k]? = w.heap[k]? := by
  obtain ⟨S, h1, h2, h3, h4⟩ := h
  have hz := h4.size
  refine ⟨fun k => S k ∨ w.heap.size ≤ k, h1.mono fun k _ hk => .inl hk, fun k hk => .inr hk, fun w' A' B' hA hf => ?_⟩
  have hs := hf.size
  have hZn : ∀ k, Z k → ¬ (S k ∨ w.heap.size ≤ k) := fun k hk h => by
    rcases h with h | h
    · exact (h3 k hk).2 h
    · have := (h3 k hk).1.2; omega
  refine ⟨⟨fun k => (S k ∨ w.heap.size ≤ k) ∧ k < w'.heap.size, hA.mono fun k hk h => ⟨h, hk⟩, fun k hk => ⟨?_, hk.2⟩, fun k hk => ⟨⟨(h3 k hk).1.1, Nat.lt_of_lt_of_le (h3 k hk).1.2 hs⟩, fun h => hZn k hk h.1⟩, h4.trans (hf.mono fun k _ hk => ?_)⟩, fun k hk => hf.block k (h3 k hk).1.2 (hZn k hk)⟩
  · rcases hk.1 with h | h
    · exact (h2 k h).1
    · omega
  · rcases hk with h | h
    · exact (h2 k h).1
    · omega
end

theorem uno_born {V : List Value → Prop} {st en : TypeId} {K : Nat} {w0 w w' : World} {S : Nat → Prop} {hb : Nat} {A : List Slot} {size : Nat} {B : Int} (h : ArenaAt V st en K S w' hb A size B) (hS : ∀ k, S k → w.heap.size ≤ k) (hf : Fr No w w') (h0 : Fr (fun k => w0.heap.size ≤ k) w0 w) :
    Uno V st en K w0 w' (fun k => w0.heap.size ≤ k ∧ k < w.heap.size) hb A size B := by
  have hz := h0.size
  have hs := hf.size
  exact ⟨fun k => S k ∧ k < w'.heap.size, h.mono fun k hk h => ⟨h, hk⟩, fun k hk => ⟨by have := hS k hk.1; omega, hk.2⟩, fun k hk => ⟨⟨hk.1, by omega⟩, fun h => by have := hS k h.1; omega⟩, h0.trans hf.no⟩

/-- A pair of numbers in a block of its own. -/
theorem pair_cells {w : World} {b : Nat} {x y : Value} {t : TypeId} (h : w.heap[b]? = some (.cells #[x, y] t (0, 0))) : w.cell? ⟨b, 0, none⟩ = some x ∧ w.cell? ⟨b, 1, none⟩ = some y := by
  refine ⟨?_, ?_⟩ <;> rw [cell_of_row _ b _ _ _ _ h] <;> rfl

theorem mod_any (v : Int) (n : Nat) (w : World) (h1 : 1 ≤ n) (h2 : n ≤ 1000) (hv : -9223372036854775808 ≤ v ∧ v ≤ 9223372036854775807) :
    Calls Try.prog 12 #[.int .i64 v, .int .i64 n] w fun e w' => ∃ r : Nat, r < n ∧ (r : Int) = IntKind.u64.wrap v % n ∧ e = .returned (.int .i64 r) ∧ w' = w := by
  obtain ⟨hv0, hv1⟩ := hv
  have hn0 : ¬ ((n : Int) = 0) := by omega
  go_enter Try.func12, Try.ntmps12
  go_wp2
  go_ret
  have hu : 0 ≤ IntKind.u64.wrap v := by simp [IntKind.wrap, IntKind.bits, IntKind.signed]; omega
  generalize IntKind.u64.wrap v = u at hu ⊢
  have e1 : u.tmod n = u % n := Int.tmod_eq_emod_of_nonneg hu
  have h3 : 0 ≤ u % (n : Int) := Int.emod_nonneg _ hn0
  have h4 : u % (n : Int) < n := Int.emod_lt_of_pos _ (by omega)
  rw [e1]
  generalize u % (n : Int) = r at h3 h4
  obtain ⟨k, rfl⟩ : ∃ k : Nat, r = k := ⟨r.toNat, by omega⟩
  refine ⟨k, by omega, rfl, ret_int ?_, rfl⟩
  unfold wrap64; omega

theorem mod_at (v m : Int) (n : Nat) (w : World) (hm : m = n) (h1 : 1 ≤ n) (h2 : n ≤ 1000) (hv : -9223372036854775808 ≤ v ∧ v ≤ 9223372036854775807) :
    Calls Try.prog 12 #[.int .i64 v, .int .i64 m] w fun e w' => ∃ r : Nat, r < n ∧ (r : Int) = IntKind.u64.wrap v % n ∧ e = .returned (.int .i64 r) ∧ w' = w := by
  subst hm; exact mod_any v n w h1 h2 hv

theorem Put.first {i : Nat} {gn : Int} {vs : List Value} {A' : List Slot} (h : Put [] i gn vs A') : i = 0 ∧ gn = 1 ∧ A' = [⟨true, 1, vs⟩] := by
  obtain ⟨_, ⟨s, hs, _⟩ | ⟨rfl, rfl, rfl⟩⟩ := h
  · simp at hs
  · exact ⟨rfl, rfl, rfl⟩

theorem Put.again {i : Nat} {gn g : Int} {zs vs : List Value} {A' : List Slot} (h : Put [⟨false, g, zs⟩] i gn vs A') : i = 0 ∧ gn = g + 1 ∧ A' = [⟨true, g + 1, vs⟩] := by
  have hf : Free [(⟨false, g, zs⟩ : Slot)] 0 := ⟨fun j s hj => by omega, fun _ => ⟨_, rfl, rfl⟩, by simp⟩
  have hi : i = 0 := h.1.unique hf
  subst hi
  obtain ⟨_, ⟨s, hs, hu, rfl, rfl⟩ | ⟨h1, rfl, rfl⟩⟩ := h
  · simp at hs
    subst hs
    exact ⟨rfl, rfl, rfl⟩
  · simp at h1

end Go.Proofs.Ytgelgnakhghpkaa
