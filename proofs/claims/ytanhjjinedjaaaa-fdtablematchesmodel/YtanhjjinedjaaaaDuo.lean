/-
  A structure in memory beside another one and beside blocks that are neither's; what small tables answer; the remainder; no walk but the remainder's.
  Conditions: as each theorem says.
-/
import Derived.Test.YtanhjjinedjaaaaT2
import Derived.Test.YtanhjjinedjaaaaT3
import Derived.Test.YtanhjjinedjaaaaT4
namespace Go.Proofs.Ytanhjjinedjaaaa
open Go.ChangeShapes Go.WideShapes Go.ChangeAt Go.RowKit
set_option linter.unusedVariables false

/-- What lies in the blocks of a set. -/
structure Mov (R : (Nat → Prop) → World → Prop) : Prop where
  fr : ∀ (S T : Nat → Prop) (w w' : World), R S w → Fr T w w' → (∀ k, S k → ¬ T k) → R S w'
  mono : ∀ (S T : Nat → Prop) (w : World), R S w → (∀ k, k < w.heap.size → S k → T k) → R T w

def Tab (hb : Nat) (L : List D) (size op : Nat) : (Nat → Prop) → World → Prop := fun S w => TabAt S w hb L size op
theorem tab_mov (hb : Nat) (L : List D) (size op : Nat) : Mov (Tab hb L size op) := ⟨fun S T w w' h hf hT => TabAt.fr h hf hT, fun S T w h hT => TabAt.mono h hT⟩

def Nil : (Nat → Prop) → World → Prop := fun _ _ => True
theorem nil_mov : Mov Nil := ⟨fun _ _ _ _ _ _ _ => trivial, fun _ _ _ _ _ => trivial⟩

/-- Two structures made by the call that began in w0; the blocks of Z were made by it too and are neither's. -/
def Duo (w0 w : World) (Z : Nat → Prop) (A B : (Nat → Prop) → World → Prop) : Prop :=
  Mov A ∧ Mov B ∧ Fr (fun k => w0.heap.size ≤ k) w0 w ∧ ∃ S T : Nat → Prop, A S w ∧ B T w ∧ (∀ k, S k → w0.heap.size ≤ k ∧ k < w.heap.size) ∧ (∀ k, T k → (w0.heap.size ≤ k ∧ k < w.heap.size) ∧ ¬ S k) ∧ (∀ k, Z k → (w0.heap.size ≤ k ∧ k < w.heap.size) ∧ ¬ S k ∧ ¬ T k)

section
variable {w0 w w' : World} {Z Z' T : Nat → Prop} {A B : (Nat → Prop) → World → Prop}

theorem Duo.fr (h : Duo w0 w Z A B) : Fr (fun k => w0.heap.size ≤ k) w0 w := h.2.2.1
theorem Duo.zlt (h : Duo w0 w Z A B) {k : Nat} (hk : Z k) : w0.heap.size ≤ k ∧ k < w.heap.size := by
  obtain ⟨_, _, _, S, T, _, _, _, _, h⟩ := h; exact (h k hk).1
theorem Duo.atA (h : Duo w0 w Z A B) : ∃ S, A S w := by obtain ⟨_, _, _, S, T, h, _⟩ := h; exact ⟨S, h⟩
theorem Duo.atB (h : Duo w0 w Z A B) : ∃ S, B S w := by obtain ⟨_, _, _, S, T, _, h, _⟩ := h; exact ⟨T, h⟩

/-- What is not theirs may change; new blocks may be kept. -/
theorem Duo.turn (h : Duo w0 w Z A B) (hf : Fr T w w') (hT : ∀ k, T k → Z k) (hZ : ∀ k, Z' k → Z k ∨ (w.heap.size ≤ k ∧ k < w'.heap.size)) : Duo w0 w' Z' A B := by
  obtain ⟨mA, mB, h4, S, U, hA, hB, h1, h2, h3⟩ := h
  have hs := hf.size
  have hz := h4.size
  refine ⟨mA, mB, h4.trans (hf.mono fun k _ ht => (h3 k (hT k ht)).1.1), S, U, mA.fr S T w w' hA hf (fun k hk ht => (h3 k (hT k ht)).2.1 hk), mB.fr U T w w' hB hf (fun k hk ht => (h3 k (hT k ht)).2.2 hk), fun k hk => ⟨(h1 k hk).1, Nat.lt_of_lt_of_le (h1 k hk).2 hs⟩, fun k hk => ⟨⟨(h2 k hk).1.1, Nat.lt_of_lt_of_le (h2 k hk).1.2 hs⟩, (h2 k hk).2⟩, fun k hk => ?_⟩
  rcases hZ k hk with hk | ⟨hk, hk'⟩
  · exact ⟨⟨(h3 k hk).1.1, Nat.lt_of_lt_of_le (h3 k hk).1.2 hs⟩, (h3 k hk).2⟩
  · exact ⟨⟨by omega, hk'⟩, fun hS => by have := (h1 k hS).2; omega, fun hU => by have := (h2 k hU).1.2; omega⟩

theorem Duo.frNo (h : Duo w0 w Z A B) (hf : Fr No w w') : Duo w0 w' Z A B := h.turn hf (fun k hk => hk.elim) fun k hk => .inl hk
theorem Duo.frNew (h : Duo w0 w Z A B) (hf : Fr No w w') : Duo w0 w' (fun k => Z k ∨ (w.heap.size ≤ k ∧ k < w'.heap.size)) A B := h.turn hf (fun k hk => hk.elim) fun k hk => hk
theorem Duo.less (h : Duo w0 w Z A B) (hz : ∀ k, Z' k → Z k) : Duo w0 w Z' A B := h.turn (Fr.refl No w) (fun k hk => hk.elim) fun k hk => .inl (hz k hk)
theorem Duo.box (h : Duo w0 w Z A B) (o : Obj) : Duo w0 (w.alloc o) (fun k => Z k ∨ k = w.heap.size) A B :=
  h.turn (Fr.alloc No w o) (fun k hk => hk.elim) fun k hk => by
    rcases hk with hk | rfl
    · exact .inl hk
    · exact .inr ⟨Nat.le_refl _, by simp⟩

theorem Duo.swap (h : Duo w0 w Z A B) : Duo w0 w Z B A := by
  obtain ⟨mA, mB, h4, S, U, hA, hB, h1, h2, h3⟩ := h
  exact ⟨mB, mA, h4, U, S, hB, hA, fun k hk => (h2 k hk).1, fun k hk => ⟨h1 k hk, fun hu => (h2 k hu).2 hk⟩, fun k hk => ⟨(h3 k hk).1, (h3 k hk).2.2, (h3 k hk).2.1⟩⟩

/-- A call on the first structure. -/
theorem Duo.a (h : Duo w0 w Z A B) : ∃ S, A S w ∧ (∀ k, w.heap.size ≤ k → S k) ∧ (∀ k, Z k → ¬ S k) ∧ ∀ (w' : World) (A' : (Nat → Prop) → World → Prop), Mov A' → A' S w' → Fr S w w' → Duo w0 w' Z A' B ∧ ∀ k, Z k → w'.heap[k]? = w.heap[k]? := by
  obtain ⟨mA, mB, h4, S, U, hA, hB, h1, h2, h3⟩ := h
  have hz := h4.size
  have hZn : ∀ k, Z k → ¬ (S k ∨ w.heap.size ≤ k) := fun k hk h => by
    rcases h with h | h
    · exact (h3 k hk).2.1 h
    · have := (h3 k hk).1.2; omega
  have hUn : ∀ k, U k → ¬ (S k ∨ w.heap.size ≤ k) := fun k hk h => by
    rcases h with h | h
    · exact (h2 k hk).2 h
    · have := (h2 k hk).1.2; omega
  refine ⟨fun k => S k ∨ w.heap.size ≤ k, mA.mono _ _ _ hA fun k _ hk => .inl hk, fun k hk => .inr hk, hZn, fun w' A' mA' hA' hf => ?_⟩
  have hs := hf.size
  refine ⟨⟨mA', mB, h4.trans (hf.mono fun k _ hk => ?_), fun k => (S k ∨ w.heap.size ≤ k) ∧ k < w'.heap.size, U, mA'.mono _ _ _ hA' fun k hk h => ⟨h, hk⟩, mB.fr _ _ _ _ hB hf hUn, fun k hk => ⟨?_, hk.2⟩, fun k hk => ⟨⟨(h2 k hk).1.1, Nat.lt_of_lt_of_le (h2 k hk).1.2 hs⟩, fun h => hUn k hk h.1⟩, fun k hk => ⟨⟨(h3 k hk).1.1, Nat.lt_of_lt_of_le (h3 k hk).1.2 hs⟩, fun h => hZn k hk h.1, (h3 k hk).2.2⟩⟩, fun k hk => hf.block k (h3 k hk).1.2 (hZn k hk)⟩
  · rcases hk with h | h
    · exact (h1 k h).1
    · omega
  · rcases hk.1 with h | h
    · exact (h1 k h).1
    · omega

theorem Duo.b (h : Duo w0 w Z A B) : ∃ S, B S w ∧ (∀ k, w.heap.size ≤ k → S k) ∧ (∀ k, Z k → ¬ S k) ∧ ∀ (w' : World) (B' : (Nat → Prop) → World → Prop), Mov B' → B' S w' → Fr S w w' → Duo w0 w' Z A B' ∧ ∀ k, Z k → w'.heap[k]? = w.heap[k]? := by
  obtain ⟨S, h1, h2, h3, h4⟩ := h.swap.a
  exact ⟨S, h1, h2, h3, fun w' B' m hb hf => ⟨(h4 w' B' m hb hf).1.swap, (h4 w' B' m hb hf).2⟩⟩
end

theorem duo_born {w0 w w' : World} {S : Nat → Prop} {A : (Nat → Prop) → World → Prop} (m : Mov A) (h : A S w') (hS : ∀ k, S k → w.heap.size ≤ k) (hf : Fr No w w') (h0 : Fr (fun k => w0.heap.size ≤ k) w0 w) :
    Duo w0 w' (fun k => w0.heap.size ≤ k ∧ k < w.heap.size) A Nil := by
  have hz := h0.size
  have hs := hf.size
  exact ⟨m, nil_mov, h0.trans hf.no, fun k => S k ∧ k < w'.heap.size, No, m.mono _ _ _ h fun k hk h => ⟨h, hk⟩, trivial, fun k hk => ⟨by have := hS k hk.1; omega, hk.2⟩, fun k hk => hk.elim, fun k hk => ⟨⟨hk.1, by omega⟩, fun h => by have := hS k h.1; omega, fun h => h.elim⟩⟩

/-! ### small tables -/

theorem Ap.one_some {c r s : Int} {d : D} {x : Int × Int} {L' : List D} (hx : d.key = x) (h : Ap c [d] x r L') (hn : nx c d.st = some s) : r = 0 ∧ L' = [{ d with st := s }] := by
  rcases h with ⟨h1, _⟩ | ⟨e, he, _, hn', _⟩ | ⟨e, t, R, hp, hk, hn', rfl, hL⟩
  · exact absurd hx (h1 d (by simp))
  · simp at he; subst he; rw [hn] at hn'; cases hn'
  · have h1 := hp.length_eq
    obtain rfl : R = [] := List.eq_nil_of_length_eq_zero (by rw [List.length_cons, List.length_cons, List.length_nil] at h1; omega)
    have h2 : e = d := by have := hp.mem_iff (a := e); simp at this; exact this
    subst h2
    rw [hn] at hn'; cases hn'
    exact ⟨rfl, List.perm_singleton.1 hL⟩
theorem Ap.one_none {c r : Int} {d : D} {x : Int × Int} {L' : List D} (hx : d.key = x) (h : Ap c [d] x r L') (hn : nx c d.st = none) : r = 7 ∧ L' = [d] := by
  rcases h with ⟨h1, _⟩ | ⟨e, he, _, hn', h2, h3⟩ | ⟨e, t, R, hp, hk, hn', rfl, hL⟩
  · exact absurd hx (h1 d (by simp))
  · exact ⟨h2, h3⟩
  · have h2 : e = d := by have := hp.mem_iff (a := e); simp at this; exact this
    subst h2
    rw [hn] at hn'; cases hn'
theorem Ap.nil {c r : Int} {x : Int × Int} {L' : List D} (h : Ap c [] x r L') : r = 4 ∧ L' = [] := by
  rcases h with ⟨_, h2, h3⟩ | ⟨e, he, _⟩ | ⟨e, t, R, hp, _⟩
  · exact ⟨h2, h3⟩
  · simp at he
  · have := hp.length_eq; simp at this
theorem Cl.one {r : Int} {d : D} {x : Int × Int} {L' : List D} (hx : d.key = x) (h : Cl [d] x r L') : r = 0 ∧ L' = [] := by
  rcases h with ⟨h1, _⟩ | ⟨e, hp, hk, rfl⟩
  · exact absurd hx (h1 d (by simp))
  · have h1 := hp.length_eq
    exact ⟨rfl, List.eq_nil_of_length_eq_zero (by rw [List.length_cons, List.length_cons, List.length_nil] at h1; omega)⟩
theorem Cl.nil {r : Int} {x : Int × Int} {L' : List D} (h : Cl [] x r L') : r = 4 ∧ L' = [] := by
  rcases h with ⟨_, h2, h3⟩ | ⟨e, hp, _⟩
  · exact ⟨h2, h3⟩
  · have := hp.length_eq; simp at this
theorem Least.nil {r : Nat} (h : Least [] r) : r = 0 := by
  rcases Nat.eq_zero_or_pos r with h0 | h0
  · exact h0
  · obtain ⟨d, hd, _⟩ := h.2 0 h0
    simp at hd
theorem Opn.bad {L L' : List D} {x : Int × Int} {st r : Int} {size no k : Nat} (hv : ¬ Valid x) (h : Opn L x st size no r L' k) : no = 0 ∧ r = 1 ∧ L' = L ∧ k = 0 := by
  rcases h with ⟨_, h⟩ | ⟨h1, _⟩ | ⟨h1, _⟩ | ⟨h1, _⟩
  · exact h
  all_goals exact absurd h1 hv
theorem Opn.dup {L L' : List D} {x : Int × Int} {st r : Int} {size no k : Nat} (hv : Valid x) (hx : ∃ d ∈ L, d.key = x) (h : Opn L x st size no r L' k) : no = 0 ∧ r = 5 ∧ L' = L ∧ k = 0 := by
  obtain ⟨d, hd, hk⟩ := hx
  rcases h with ⟨h1, _⟩ | ⟨h1, _, h⟩ | ⟨_, h1, _⟩ | ⟨_, h1, _⟩
  · exact absurd hv h1
  · exact h
  · exact absurd hk (h1 d hd)
  · exact absurd hk (h1 d hd)
theorem Opn.full {L L' : List D} {x : Int × Int} {st r : Int} {size no k : Nat} (hv : Valid x) (hx : ∀ d ∈ L, d.key ≠ x) (hs : size ≤ L.length) (h : Opn L x st size no r L' k) : no = 0 ∧ r = 6 ∧ L' = L ∧ k = 0 := by
  rcases h with ⟨h1, _⟩ | ⟨h1, ⟨d, hd, hk⟩, h⟩ | ⟨_, h1, _, h⟩ | ⟨_, _, h1, _⟩
  · exact absurd hv h1
  · exact absurd hk (hx d hd)
  · exact h
  · omega
theorem Opn.good {L L' : List D} {x : Int × Int} {st r : Int} {size no k : Nat} (hv : Valid x) (hx : ∀ d ∈ L, d.key ≠ x) (hs : L.length < size) (h : Opn L x st size no r L' k) : r = 0 ∧ Least L no ∧ L'.Perm (⟨x.1, x.2, no, st⟩ :: L) ∧ k = 1 := by
  rcases h with ⟨h1, _⟩ | ⟨h1, ⟨d, hd, hk⟩, h⟩ | ⟨_, _, h1, h⟩ | ⟨_, _, _, h⟩
  · exact absurd hv h1
  · exact absurd hk (hx d hd)
  · omega
  · exact h
theorem Opn.first {L' : List D} {x : Int × Int} {st r : Int} {size no k : Nat} (hv : Valid x) (hs : 0 < size) (h : Opn [] x st size no r L' k) : no = 0 ∧ r = 0 ∧ L' = [⟨x.1, x.2, 0, st⟩] ∧ k = 1 := by
  obtain ⟨h1, h2, h3, h4⟩ := h.good hv (fun d hd => by simp at hd) (by simpa using hs)
  have := h2.nil
  subst this
  exact ⟨rfl, h1, List.perm_singleton.1 h3, h4⟩
theorem Ask.mem {f : D → Int} {z v : Int} {L : List D} {x : Int × Int} {d : D} (hs : Sorted L) (hd : d ∈ L) (hk : d.key = x) (h : Ask f z L x v) : v = f d := by
  rcases h with ⟨h1, _⟩ | ⟨e, he, hke, rfl⟩
  · exact absurd hk (h1 d hd)
  · rw [key_inj hs he hd (hke.trans hk.symm)]
theorem Ask.none {f : D → Int} {z v : Int} {L : List D} {x : Int × Int} (hn : ∀ d ∈ L, d.key ≠ x) (h : Ask f z L x v) : v = z := by
  rcases h with ⟨_, h1⟩ | ⟨e, he, hke, rfl⟩
  · exact h1
  · exact absurd hke (hn e he)

/-! ### the remainder -/

theorem mod_any (v : Int) (n : Nat) (w : World) (h1 : 1 ≤ n) (h2 : n ≤ 2000000) (hv : -9223372036854775808 ≤ v ∧ v ≤ 9223372036854775807) :
    Calls Try.prog 14 #[.int .i64 v, .int .i64 n] w fun e w' => ∃ r : Nat, r < n ∧ (r : Int) = IntKind.u64.wrap v % n ∧ e = .returned (.int .i64 r) ∧ w' = w := by
  obtain ⟨hv0, hv1⟩ := hv
  have hn0 : ¬ ((n : Int) = 0) := by omega
  go_enter Try.func14, Try.ntmps14
  go_wp2
  go_ret
  have hu : 0 ≤ IntKind.u64.wrap v := by simp [IntKind.wrap, IntKind.bits, IntKind.signed]; omega
  generalize IntKind.u64.wrap v = u at hu ⊢
  have e1 : u.tmod n = u % n := Int.tmod_eq_emod_of_nonneg hu
  have h3 : 0 ≤ u % (n : Int) := Int.emod_nonneg _ hn0
  have h4 : u % (n : Int) < n := Int.emod_lt_of_pos _ (by omega)
  rw [e1]
  generalize u % (n : Int) = r at h3 h4
  obtain ⟨k, rfl⟩ : ∃ k : Nat, r = k := ⟨r.toNat, by omega⟩
  refine ⟨k, by omega, rfl, ret_int ?_, rfl⟩
  unfold wrap64; omega

/-- The remainder is one number, whatever the world. -/
theorem mod_fix (v m : Int) (n : Nat) (hm : m = n) (h1 : 1 ≤ n) (h2 : n ≤ 2000000) (hv : -9223372036854775808 ≤ v ∧ v ≤ 9223372036854775807) :
    ∃ r : Nat, r < n ∧ ∀ w : World, Calls Try.prog 14 #[.int .i64 v, .int .i64 m] w fun e w' => e = .returned (.int .i64 r) ∧ w' = w := by
  subst hm
  have g1 : 0 ≤ IntKind.u64.wrap v % (n : Int) := Int.emod_nonneg _ (by omega)
  have g2 : IntKind.u64.wrap v % (n : Int) < (n : Int) := Int.emod_lt_of_pos _ (by omega)
  refine ⟨(IntKind.u64.wrap v % (n : Int)).toNat, by omega, fun w => (mod_any v n w h1 h2 hv).mono ?_⟩
  rintro e w' ⟨r, hr, hr2, rfl, rfl⟩
  have : r = (IntKind.u64.wrap v % (n : Int)).toNat := by omega
  rw [← this]
  exact ⟨rfl, rfl⟩

end Go.Proofs.Ytanhjjinedjaaaa
