/-
  One ring buffer beside blocks that are not its own; the remainder; the ring buffers of bytes and strings that the laws make.
  Conditions: as each theorem says.
-/
import Derived.Test.YtmgpeonnmfidhaaR6
import Derived.Test.YtmgpeonnmfidhaaEq
namespace Go.Proofs.Ytmgpeonnmfidhaa
open Go.ChangeShapes Go.WideShapes Go.ChangeAt Go.RowKit
set_option linter.unusedVariables false

/-- A ring buffer made by the call that began in w0; the blocks of Z were made by it too and are not the ring buffer's. -/
def Uno (w0 w : World) (Z : Nat → Prop) (hb : Nat) (Q : List Int) (size : Nat) : Prop :=
  ∃ S : Nat → Prop, RingAt S w hb Q size ∧ (∀ k, S k → w0.heap.size ≤ k ∧ k < w.heap.size) ∧ (∀ k, Z k → (w0.heap.size ≤ k ∧ k < w.heap.size) ∧ ¬ S k) ∧ Fr (fun k => w0.heap.size ≤ k) w0 w

section
variable {w0 w w' : World} {Z Z' T : Nat → Prop} {hb : Nat} {Q : List Int} {size : Nat}

theorem Uno.fr (h : Uno w0 w Z hb Q size) : Fr (fun k => w0.heap.size ≤ k) w0 w := by
  obtain ⟨S, _, _, _, h⟩ := h; exact h
theorem Uno.len (h : Uno w0 w Z hb Q size) : Q.length ≤ size ∧ size ≤ 4096 := by
  obtain ⟨S, h, _⟩ := h; exact h.len
theorem Uno.zlt (h : Uno w0 w Z hb Q size) {k : Nat} (hk : Z k) : k < w.heap.size := by
  obtain ⟨S, _, _, h, _⟩ := h; exact (h k hk).1.2
theorem Uno.at_ (h : Uno w0 w Z hb Q size) : ∃ S, RingAt S w hb Q size := by
  obtain ⟨S, h, _⟩ := h; exact ⟨S, h⟩

/-- What is not the ring buffer's may change; new blocks may be kept. -/
theorem Uno.turn (h : Uno w0 w Z hb Q size) (hf : Fr T w w') (hT : ∀ k, T k → Z k) (hZ : ∀ k, Z' k → Z k ∨ (w.heap.size ≤ k ∧ k < w'.heap.size)) : Uno w0 w' Z' hb Q size := by
  obtain ⟨S, h1, h2, h3, h4⟩ := h
  have hs := hf.size
  have hz := h4.size
  refine ⟨S, h1.fr hf (fun k hk ht => (h3 k (hT k ht)).2 hk), fun k hk => ⟨(h2 k hk).1, Nat.lt_of_lt_of_le (h2 k hk).2 hs⟩, fun k hk => ?_, h4.trans (hf.mono fun k _ ht => (h3 k (hT k ht)).1.1)⟩
  rcases hZ k hk with hk | ⟨hk, hk'⟩
  · exact ⟨⟨(h3 k hk).1.1, Nat.lt_of_lt_of_le (h3 k hk).1.2 hs⟩, (h3 k hk).2⟩
  · exact ⟨⟨by omega, hk'⟩, fun hS => by have := (h2 k hS).2; omega⟩

theorem Uno.frNo (h : Uno w0 w Z hb Q size) (hf : Fr No w w') : Uno w0 w' Z hb Q size := h.turn hf (fun k hk => hk.elim) fun k hk => .inl hk
theorem Uno.frNew (h : Uno w0 w Z hb Q size) (hf : Fr No w w') : Uno w0 w' (fun k => Z k ∨ (w.heap.size ≤ k ∧ k < w'.heap.size)) hb Q size := h.turn hf (fun k hk => hk.elim) fun k hk => hk
theorem Uno.less (h : Uno w0 w Z hb Q size) (hz : ∀ k, Z' k → Z k) : Uno w0 w Z' hb Q size := h.turn (Fr.refl No w) (fun k hk => hk.elim) fun k hk => .inl (hz k hk)

/-- A call on the ring buffer. -/
theorem Uno.t (h : Uno w0 w Z hb Q size) : ∃ S, RingAt S w hb Q size ∧ (∀ k, w.heap.size ≤ k → S k) ∧ (∀ k, Z k → ¬ S k) ∧ (∀ k, k < w0.heap.size → ¬ S k) ∧ ∀ (w' : World) (Q' : List Int), RingAt S w' hb Q' size → Fr S w w' → Uno w0 w' Z hb Q' size ∧ ∀ k, Z k → w'.heap[k]? = w.heap[k]? := by
  obtain ⟨S, h1, h2, h3, h4⟩ := h
  have hz := h4.size
  have hZn : ∀ k, Z k → ¬ (S k ∨ w.heap.size ≤ k) := fun k hk h => by
    rcases h with h | h
    · exact (h3 k hk).2 h
    · have := (h3 k hk).1.2; omega
  refine ⟨fun k => S k ∨ w.heap.size ≤ k, h1.mono fun k _ hk => .inl hk, fun k hk => .inr hk, hZn, fun k hk hS => ?_, fun w' Q' hA hf => ?_⟩
  · rcases hS with h | h
    · have := (h2 k h).1; omega
    · omega
  have hs := hf.size
  refine ⟨⟨fun k => (S k ∨ w.heap.size ≤ k) ∧ k < w'.heap.size, hA.mono fun k hk h => ⟨h, hk⟩, fun k hk => ⟨?_, hk.2⟩, fun k hk => ⟨⟨(h3 k hk).1.1, Nat.lt_of_lt_of_le (h3 k hk).1.2 hs⟩, fun h => hZn k hk h.1⟩, h4.trans (hf.mono fun k _ hk => ?_)⟩, fun k hk => hf.block k (h3 k hk).1.2 (hZn k hk)⟩
  · rcases hk.1 with h | h
    · exact (h2 k h).1
    · omega
  · rcases hk with h | h
    · exact (h2 k h).1
    · omega

/-- A call on the ring buffer that gives it no new block: new blocks may be kept. -/
theorem Uno.q (h : Uno w0 w Z hb Q size) : ∃ S, RingAt S w hb Q size ∧ ∀ (w' : World) (Q' : List Int), RingAt S w' hb Q' size → Fr S w w' → Uno w0 w' (fun k => Z k ∨ (w.heap.size ≤ k ∧ k < w'.heap.size)) hb Q' size ∧ ∀ k, Z k → w'.heap[k]? = w.heap[k]? := by
  obtain ⟨S, h1, h2, h3, h4⟩ := h
  have hz := h4.size
  refine ⟨S, h1, fun w' Q' hA hf => ?_⟩
  have hs := hf.size
  refine ⟨⟨S, hA, fun k hk => ⟨(h2 k hk).1, Nat.lt_of_lt_of_le (h2 k hk).2 hs⟩, fun k hk => ?_, h4.trans (hf.mono fun k _ hk => (h2 k hk).1)⟩, fun k hk => hf.block k (h3 k hk).1.2 (h3 k hk).2⟩
  rcases hk with hk | hk
  · exact ⟨⟨(h3 k hk).1.1, Nat.lt_of_lt_of_le (h3 k hk).1.2 hs⟩, (h3 k hk).2⟩
  · exact ⟨⟨by omega, hk.2⟩, fun h => by have := (h2 k h).2; omega⟩
end

theorem uno_born {w0 w w' : World} {S : Nat → Prop} {hb : Nat} {Q : List Int} {size : Nat} (h : RingAt S w' hb Q size) (hS : ∀ k, S k → w.heap.size ≤ k) (hf : Fr No w w') (h0 : Fr (fun k => w0.heap.size ≤ k) w0 w) :
    Uno w0 w' (fun k => w0.heap.size ≤ k ∧ k < w.heap.size) hb Q size := by
  have hz := h0.size
  have hs := hf.size
  exact ⟨fun k => S k ∧ k < w'.heap.size, h.mono fun k hk h => ⟨h, hk⟩, fun k hk => ⟨by have := hS k hk.1; omega, hk.2⟩, fun k hk => ⟨⟨hk.1, by omega⟩, fun h => by have := hS k h.1; omega⟩, h0.trans hf.no⟩

theorem mod_any (v : Int) (n : Nat) (w : World) (h1 : 1 ≤ n) (h2 : n ≤ 1000) (hv : -9223372036854775808 ≤ v ∧ v ≤ 9223372036854775807) :
    Calls Try.prog 12 #[.int .i64 v, .int .i64 n] w fun e w' => ∃ r : Nat, r < n ∧ (r : Int) = IntKind.u64.wrap v % n ∧ e = .returned (.int .i64 r) ∧ w' = w := by
  obtain ⟨hv0, hv1⟩ := hv
  have hn0 : ¬ ((n : Int) = 0) := by omega
  go_enter Try.func12, Try.ntmps12
  go_wp2
  go_ret
  have hu : 0 ≤ IntKind.u64.wrap v := by simp [IntKind.wrap, IntKind.bits, IntKind.signed]; omega
  generalize IntKind.u64.wrap v = u at hu ⊢
  have e1 : u.tmod n = u % n := Int.tmod_eq_emod_of_nonneg hu
  have h3 : 0 ≤ u % (n : Int) := Int.emod_nonneg _ hn0
  have h4 : u % (n : Int) < n := Int.emod_lt_of_pos _ (by omega)
  rw [e1]
  generalize u % (n : Int) = r at h3 h4
  obtain ⟨k, rfl⟩ : ∃ k : Nat, r = k := ⟨r.toNat, by omega⟩
  refine ⟨k, by omega, rfl, ret_int ?_, rfl⟩
  unfold wrap64; omega

/-- The remainder is one number, whatever the world. -/
theorem mod_fix (v m : Int) (n : Nat) (hm : m = n) (h1 : 1 ≤ n) (h2 : n ≤ 1000) (hv : -9223372036854775808 ≤ v ∧ v ≤ 9223372036854775807) :
    ∃ r : Nat, r < n ∧ ∀ w : World, Calls Try.prog 12 #[.int .i64 v, .int .i64 m] w fun e w' => e = .returned (.int .i64 r) ∧ w' = w := by
  subst hm
  have g1 : 0 ≤ IntKind.u64.wrap v % (n : Int) := Int.emod_nonneg _ (by omega)
  have g2 : IntKind.u64.wrap v % (n : Int) < (n : Int) := Int.emod_lt_of_pos _ (by omega)
  refine ⟨(IntKind.u64.wrap v % (n : Int)).toNat, by omega, fun w => (mod_any v n w h1 h2 hv).mono ?_⟩
  rintro e w' ⟨r, hr, hr2, rfl, rfl⟩
  have : r = (IntKind.u64.wrap v % (n : Int)).toNat := by omega
  rw [← this]
  exact ⟨rfl, rfl⟩

/-! ### ring buffers of bytes and strings -/

def Byte (w : World) (hb n : Nat) : Prop := w.heap[hb]? = some (.cells #[.slice none 0 0, .int .i64 0, .int .i64 0, .int .i64 n] 48 (0, 0))

theorem Byte.cells {w : World} {hb n : Nat} (h : Byte w hb n) : w.cell? ⟨hb, 2, none⟩ = some (.int .i64 0) ∧ w.cell? ⟨hb, 3, none⟩ = some (.int .i64 n) := by
  refine ⟨?_, ?_⟩ <;> rw [cell_of_row w hb _ _ _ _ h] <;> rfl
theorem Byte.frNo {w w' : World} {hb n : Nat} (h : Byte w hb n) (hf : Fr No w w') : Byte w' hb n := (hf.block hb (Array.getElem?_eq_some_iff.1 h).1 (fun h => h)).trans h

theorem byte_ok (n : Nat) (w : World) (h1 : 1 ≤ n) (h2 : n ≤ 4096) :
    Calls Try.prog 7 #[.int .i64 n] w fun e w' => ∃ hb, e = .returned (.tuple #[.pointer (some ⟨hb, 0, none⟩), .int .i64 0]) ∧ Byte w' hb n ∧ Fr No w w' := by
  have p1 : ¬ ((n : Int) < 1) := by omega
  have p2 : ¬ (4096 < (n : Int)) := by omega
  go_enter Try.func7, Try.ntmps7
  go_wp2
  go_ret2
  exact ⟨w.heap.size, rfl, heap_alloc_new w _, Fr.alloc _ _ _⟩

theorem byte_bad (n : Int) (w : World) (h : n < 1 ∨ 4096 < n) :
    Calls Try.prog 7 #[.int .i64 n] w fun e w' => e = .returned (.tuple #[.pointer none, .int .i64 1]) ∧ w' = w := by
  by_cases p1 : n < 1
  · go_enter Try.func7, Try.ntmps7
    go_wp2
    go_ret2
    exact ⟨rfl, rfl⟩
  · have p2 : 4096 < n := by omega
    go_enter Try.func7, Try.ntmps7
    go_wp2
    go_ret2
    exact ⟨rfl, rfl⟩

theorem string_zero (w : World) : Calls Try.prog 24 #[.int .i64 0] w fun e w' => e = .returned (.tuple #[.pointer none, .int .i64 1]) ∧ w' = w := by
  go_enter Try.func24, Try.ntmps24
  go_wp2
  go_ret2
  exact ⟨rfl, rfl⟩

theorem byte_cap (hb n : Nat) (w : World) (h : Byte w hb n) : Calls Try.prog 9 #[.pointer (some ⟨hb, 0, none⟩)] w fun e w' => e = .returned (.int .i64 n) ∧ w' = w := by
  obtain ⟨c2, c3⟩ := h.cells
  clear h
  go_enter Try.func9, Try.ntmps9
  go_wp2
  go_ret
  exact ⟨rfl, rfl⟩

theorem byte_free (hb n : Nat) (w : World) (h : Byte w hb n) (hn : n ≤ 4096) : Calls Try.prog 10 #[.pointer (some ⟨hb, 0, none⟩)] w fun e w' => e = .returned (.int .i64 n) ∧ Fr No w w' ∧ Byte w' hb n := by
  have H := Lib.hid h
  obtain ⟨c2, c3⟩ := h.cells
  clear h
  go_enter Try.func10, Try.ntmps10
  go_wp2_with fail
  go_quiet (fail)
  go_wp2_with fail
  go_ret
  exact ⟨rfl, Fr.drewN _ _ _, H.out.frNo (Fr.drewN _ _ _)⟩

theorem byte_len (hb n : Nat) (w : World) (h : Byte w hb n) : Calls Try.prog 11 #[.pointer (some ⟨hb, 0, none⟩)] w fun e w' => e = .returned (.int .i64 0) ∧ w' = w := by
  obtain ⟨c2, c3⟩ := h.cells
  clear h
  go_enter Try.func11, Try.ntmps11
  go_wp2
  go_ret
  exact ⟨rfl, rfl⟩

end Go.Proofs.Ytmgpeonnmfidhaa
