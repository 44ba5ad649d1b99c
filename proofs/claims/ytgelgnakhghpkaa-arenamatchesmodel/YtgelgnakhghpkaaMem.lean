/-
  How an arena of this package lies in memory, and what a frame of a call leaves alone; no walk.
  Conditions: as each theorem says.
-/
import Derived.Test.YtgelgnakhghpkaaRows
import Derived.WalkKit
import Derived.ProofKit
import Derived.OpenShut
import Derived.Below
import Derived.Lib.Hide
import Derived.StillTailTactics
import Derived.Sort.Grow
import Derived.Deep.Draws
import Derived.Deep.AppendLies
import Derived.Deep.LoopGhost
namespace Go.Proofs.Ytgelgnakhghpkaa
open Go.ChangeShapes Go.WideShapes Go.ChangeAt Go.RowKit
set_option linter.unusedVariables false

theorem ret_int {k : IntKind} {a b : Int} (h : a = b) : Ending.returned (.int k a) = .returned (.int k b) := by rw [h]

theorem region_tail {P : Program} {id : Nat} {Q : Exit → Act → World → Prop} {a : Act} {w : World} {l : List Oper} (n : Nat) (hm : P.follows .mixedOrders = true) (hB : Region.lexTailB .any l.toArray n = true)
    (h : ∀ y, y = w.drew → wpStill P l.toArray y (fun a' => wpList P l.toArray Q (l.drop n) a' y) (l.take n) a) : (Code.region id l.toArray true).wp P Q a w := wp_region_still_tail n hm hB (h _ rfl)

/-! ### frames -/

structure Fr (S : Nat → Prop) (w w' : World) : Prop where
  os : w'.os = w.os
  tape : w'.tape = w.tape
  output : w'.output = w.output
  size : w.heap.size ≤ w'.heap.size
  block : ∀ k, k < w.heap.size → ¬ S k → w'.heap[k]? = w.heap[k]?

def No : Nat → Prop := fun _ => False

theorem Fr.refl (S : Nat → Prop) (w : World) : Fr S w w := ⟨rfl, rfl, rfl, Nat.le_refl _, fun _ _ _ => rfl⟩
theorem Fr.trans {S : Nat → Prop} {a b c : World} (h : Fr S a b) (k : Fr S b c) : Fr S a c :=
  ⟨k.os.trans h.os, k.tape.trans h.tape, k.output.trans h.output, Nat.le_trans h.size k.size, fun i hi hs => (k.block i (Nat.lt_of_lt_of_le hi h.size) hs).trans (h.block i hi hs)⟩
theorem Fr.mono {S T : Nat → Prop} {a b : World} (h : Fr S a b) (hST : ∀ k, k < a.heap.size → S k → T k) : Fr T a b :=
  ⟨h.os, h.tape, h.output, h.size, fun k hk ht => h.block k hk (fun hs => ht (hST k hk hs))⟩
theorem Fr.no {S : Nat → Prop} {a b : World} (h : Fr No a b) : Fr S a b := h.mono fun _ _ h => h.elim
theorem Fr.drew (S : Nat → Prop) (w : World) : Fr S w w.drew := ⟨rfl, rfl, rfl, Nat.le_refl _, fun _ _ _ => rfl⟩
theorem Fr.alloc (S : Nat → Prop) (w : World) (o : Obj) : Fr S w (w.alloc o) := ⟨rfl, rfl, rfl, by simp, fun k hk _ => Below.heap_alloc _ _ _ hk⟩
theorem Fr.setCell (S : Nat → Prop) (w : World) (a : Addr) (u : Value) (h : S a.block) : Fr S w (w.setCell a u) :=
  ⟨rfl, rfl, rfl, by simp [World.setCell], fun k hk hs => Below.heap_setCell _ _ _ _ (fun e => hs (e ▸ h))⟩
theorem Fr.grown {S : Nat → Prop} {w w' : World} {row : Option Nat} (hg : w.grownBy w' row) (h : ∀ k, row = some k → S k) : Fr S w w' :=
  ⟨hg.os, hg.tape, hg.output, hg.size, fun k hk hs => hg.block k hk (fun e => hs (h k e.symm))⟩
theorem Fr.below {S : Nat → Prop} {B : Nat} {w w' : World} (h : Fr S w w') (hS : ∀ k, S k → B ≤ k) (hB : B ≤ w.heap.size) : Below B w w' :=
  ⟨h.os, h.tape, h.output, h.size, fun k hk => h.block k (by omega) (fun hs => by have := hS k hs; omega)⟩
theorem Fr.ofNew {S T : Nat → Prop} {a b c : World} (h : Fr S a b) (k : Fr T b c) (hT : ∀ k, T k → S k ∨ a.heap.size ≤ k) : Fr S a c :=
  ⟨k.os.trans h.os, k.tape.trans h.tape, k.output.trans h.output, Nat.le_trans h.size k.size, fun i hi hs => (k.block i (Nat.lt_of_lt_of_le hi h.size) (fun ht => by rcases hT i ht with h1 | h1; exact hs h1; omega)).trans (h.block i hi hs)⟩
theorem Fr.setNew {S : Nat → Prop} {w w' : World} (h : Fr S w w') {a : Addr} (ha : w.heap.size ≤ a.block) (u : Value) : Fr S w (w'.setCell a u) :=
  h.ofNew (T := fun k => k = a.block) (Fr.setCell _ _ a u rfl) fun k hk => .inr (by omega)
theorem fr_base {w w' : World} (h : Fr (fun k => w.heap.size ≤ k) w w') : Fr No w w' :=
  ⟨h.os, h.tape, h.output, h.size, fun k hk _ => h.block k hk (by omega)⟩

theorem heap_set0 {w : World} {hb : Nat} {a b c : Value} {st : TypeId} (h : w.heap[hb]? = some (.cells #[a, b, c] st (0, 0))) (v : Value) : (w.setCell ⟨hb, 0, none⟩ v).heap[hb]? = some (.cells #[v, b, c] st (0, 0)) := by
  rw [heap_setCell_same w hb 0 _ _ v h]; rfl
theorem heap_set2 {w : World} {hb : Nat} {a b c : Value} {st : TypeId} (h : w.heap[hb]? = some (.cells #[a, b, c] st (0, 0))) (v : Value) : (w.setCell ⟨hb, 2, none⟩ v).heap[hb]? = some (.cells #[a, b, v] st (0, 0)) := by
  rw [heap_setCell_same w hb 2 _ _ v h]; rfl

theorem info_parts {P : Program} {e : TypeId} {z : Option Value} {s b : Nat} (h : (P.info? e).map (fun i => (i.zero, i.size, i.bytes)) = some (z, s, b)) : ∃ i, P.info? e = some i ∧ i.zero = z ∧ i.size = s ∧ i.bytes = b := by
  cases hi : P.info? e with
  | none => rw [hi] at h; cases h
  | some i => rw [hi] at h; simp at h; exact ⟨i, rfl, h.1, h.2.1, h.2.2⟩

/-! ### slots -/

structure Slot where
  used : Bool
  gen : Int
  val : List Value

def enc (s : Slot) : List Value := .bool s.used :: .int .i64 s.gen :: s.val

def flat : List Slot → List Value
  | [] => []
  | s :: A => enc s ++ flat A

def Wide (K : Nat) (A : List Slot) : Prop := ∀ s ∈ A, s.val.length + 2 = K

theorem enc_length {K : Nat} {s : Slot} (h : s.val.length + 2 = K) : (enc s).length = K := by simp [enc]; omega

theorem flat_length {K : Nat} {A : List Slot} (h : Wide K A) : (flat A).length = A.length * K := by
  induction A with
  | nil => simp [flat]
  | cons s A ih =>
    rw [flat, List.length_append, ih (fun t ht => h t (by simp [ht])), enc_length (h s (by simp)), List.length_cons, Nat.succ_mul]; omega

theorem flat_get {K : Nat} {A : List Slot} (h : Wide K A) : ∀ (i : Nat) (s : Slot), A[i]? = some s → ∀ (j : Nat) (v : Value), (enc s)[j]? = some v → (flat A)[i * K + j]? = some v := by
  induction A with
  | nil => intro i s hi; simp at hi
  | cons a A ih =>
    intro i s hi j v hv
    have ha := enc_length (h a (by simp))
    cases i with
    | zero =>
      simp at hi
      subst hi
      have hj := (List.getElem?_eq_some_iff.1 hv).1
      rw [flat, List.getElem?_append_left (by omega)]
      simpa using hv
    | succ i =>
      rw [flat, List.getElem?_append_right (by rw [ha, Nat.succ_mul]; omega), ha, show (i + 1) * K + j - K = i * K + j by rw [Nat.succ_mul]; omega]
      exact ih (fun t ht => h t (by simp [ht])) i s (by simpa using hi) j v hv

theorem flat_set {K : Nat} {A : List Slot} (h : Wide K A) : ∀ (i j : Nat) (s s' : Slot) (v : Value), A[i]? = some s → j < K → enc s' = (enc s).set j v → (flat A).set (i * K + j) v = flat (A.set i s') := by
  induction A with
  | nil => intro i j s s' v hi; simp at hi
  | cons a A ih =>
    intro i j s s' v hi hj he
    have ha := enc_length (h a (by simp))
    cases i with
    | zero =>
      simp at hi
      subst hi
      rw [flat, List.set_cons_zero, flat, List.set_append_left _ _ (by omega), he]
      simp
    | succ i =>
      rw [flat, List.set_cons_succ, flat, List.set_append_right _ _ (by rw [ha, Nat.succ_mul]; omega), ha, show (i + 1) * K + j - K = i * K + j by rw [Nat.succ_mul]; omega, ih (fun t ht => h t (by simp [ht])) i j s s' v (by simpa using hi) hj he]

theorem flat_append (A B : List Slot) : flat (A ++ B) = flat A ++ flat B := by
  induction A with
  | nil => rfl
  | cons a A ih => simp [flat, ih]

theorem Wide.set {K : Nat} {A : List Slot} (h : Wide K A) (i : Nat) {s : Slot} (hs : s.val.length + 2 = K) : Wide K (A.set i s) := by
  intro t ht
  rcases List.mem_or_eq_of_mem_set ht with h1 | rfl
  · exact h t h1
  · exact hs

theorem Wide.push {K : Nat} {A : List Slot} (h : Wide K A) {s : Slot} (hs : s.val.length + 2 = K) : Wide K (A ++ [s]) := by
  intro t ht
  rcases List.mem_append.1 ht with h1 | h1
  · exact h t h1
  · simp at h1; subst h1; exact hs

/-! ### an arena in memory -/

structure Raw (st en : TypeId) (K : Nat) (w : World) (hb : Nat) (sv : Value) (A : List Slot) (size : Nat) (c : Int) : Prop where
  hdr : w.heap[hb]? = some (.cells #[sv, .int .i64 size, .int .i64 c] st (0, 0))
  row : w.ownsRow 0 en K sv A.length (flat A)
  apart : sv.ownBlock ≠ some hb
  wide : Wide K A

def Own (hb : Nat) (sv : Value) (k : Nat) : Prop := k = hb ∨ sv.ownBlock = some k

section
variable {st en : TypeId} {K : Nat} {w w' : World} {hb : Nat} {sv : Value} {A : List Slot} {size : Nat} {c : Int}

theorem Raw.lt (h : Raw st en K w hb sv A size c) : hb < w.heap.size := (Array.getElem?_eq_some_iff.1 h.hdr).1
theorem Raw.rlt (h : Raw st en K w hb sv A size c) {k : Nat} (hk : sv.ownBlock = some k) : k < w.heap.size := (h.row.lt k hk).2
theorem Raw.own_lt (h : Raw st en K w hb sv A size c) {k : Nat} (hk : Own hb sv k) : k < w.heap.size := by
  rcases hk with rfl | hk
  · exact h.lt
  · exact h.rlt hk

theorem row_keep {xs : List Value} {m : Nat} {base : Nat} (h : w.ownsRow base en K sv m xs) (hw : ∀ k, sv.ownBlock = some k → w'.heap[k]? = w.heap[k]?) : w'.ownsRow base en K sv m xs := by
  refine ⟨h.1, ?_⟩
  rcases h.2 with h1 | ⟨g, cap, cur, hv, hb', hg, hr⟩
  · exact .inl h1
  · exact .inr ⟨g, cap, cur, hv, hb', (hw g (by rw [hv]; rfl)).trans hg, hr⟩

/-- An arena that a call does not touch stays what it is. -/
theorem Raw.keep (h : Raw st en K w hb sv A size c) (hw : ∀ k, Own hb sv k → w'.heap[k]? = w.heap[k]?) : Raw st en K w' hb sv A size c :=
  ⟨(hw hb (.inl rfl)).trans h.hdr, row_keep h.row (fun k hk => hw k (.inr hk)), h.apart, h.wide⟩

theorem Raw.fr {S : Nat → Prop} (h : Raw st en K w hb sv A size c) (hf : Fr S w w') (hS : ∀ k, Own hb sv k → ¬ S k) : Raw st en K w' hb sv A size c :=
  h.keep fun k hk => hf.block k (h.own_lt hk) (hS k hk)
theorem Raw.frNo (h : Raw st en K w hb sv A size c) (hf : Fr No w w') : Raw st en K w' hb sv A size c := h.fr hf fun _ _ h => h

theorem Raw.form (h : Raw st en K w hb sv A size c) (hn : 0 < A.length) : ∃ g cap, sv = .slice (some ⟨g, 0, none⟩) A.length cap := by
  obtain ⟨g, cap, hv, _⟩ := h.row.form hn
  exact ⟨g, cap, hv⟩

theorem Raw.any (h : Raw st en K w hb sv A size c) : ∃ a cap, sv = .slice a A.length cap := by
  rcases h.row.2 with ⟨hv, hn'⟩ | ⟨g, cap, cur, hv, _⟩
  · exact ⟨none, 0, by rw [hv, hn']⟩
  · exact ⟨_, cap, by rw [hv]⟩

theorem Raw.hcell (h : Raw st en K w hb sv A size c) : w.cell? ⟨hb, 0, none⟩ = some sv ∧ w.cell? ⟨hb, 1, none⟩ = some (.int .i64 size) ∧ w.cell? ⟨hb, 2, none⟩ = some (.int .i64 c) := by
  refine ⟨?_, ?_, ?_⟩ <;> rw [cell_of_row w hb _ _ _ _ h.hdr] <;> rfl

theorem Raw.hfrozen (h : Raw st en K w hb sv A size c) (j : Nat) : w.frozen? ⟨hb, j, none⟩ = false := frozen_of_row w hb j _ _ h.hdr

theorem Raw.ecells {g m cap : Nat} (h : Raw st en K w hb (.slice (some ⟨g, 0, none⟩) m cap) A size c) {i : Nat} {s : Slot} (hi : A[i]? = some s) : ∀ (j : Nat) (v : Value), (enc s)[j]? = some v → w.cell? ⟨g, i * K + j, none⟩ = some v := by
  intro j v hv
  have hs := h.wide s (List.mem_of_getElem? hi)
  have hj : j < K := by have := (List.getElem?_eq_some_iff.1 hv).1; rw [enc_length hs] at this; exact this
  have hil : i < A.length := (List.getElem?_eq_some_iff.1 hi).1
  obtain ⟨g', cap', hf⟩ := h.form (by omega)
  cases hf
  have hlt : i * K + j < A.length * K := by
    have : (i + 1) * K ≤ A.length * K := Nat.mul_le_mul_right _ hil
    rw [Nat.succ_mul] at this
    omega
  rw [h.row.cellAt _ (by omega)]
  exact flat_get h.wide i s hi j v hv

theorem Raw.efrozen {g m cap : Nat} (h : Raw st en K w hb (.slice (some ⟨g, 0, none⟩) m cap) A size c) (hn : A.length = m) (j : Nat) : w.frozen? ⟨g, j, none⟩ = false := by
  subst hn
  exact h.row.frozenAt j

/-- One cell of a slot is written. -/
theorem Raw.put {g m cap : Nat} (h : Raw st en K w hb (.slice (some ⟨g, 0, none⟩) m cap) A size c) (hm : A.length = m) {i j : Nat} {s s' : Slot} {v : Value} (hi : A[i]? = some s) (he : enc s' = (enc s).set j v) (hj : j < K) :
    Raw st en K (w.setCell ⟨g, i * K + j, none⟩ v) hb (.slice (some ⟨g, 0, none⟩) m cap) (A.set i s') size c := by
  have hg : g ≠ hb := fun e => h.apart (by simp [Value.ownBlock, e])
  subst hm
  have hs := h.wide s (List.mem_of_getElem? hi)
  have hs' : s'.val.length + 2 = K := by
    have := congrArg List.length he
    simp [enc] at this
    omega
  refine ⟨(heap_setCell_other _ _ _ _ hg.symm).trans h.hdr, ?_, h.apart, h.wide.set i hs'⟩
  rw [List.length_set, ← flat_set h.wide i j s s' v hi hj he]
  exact (h.row.stored (i * K + j) v).1

theorem Raw.setCount (h : Raw st en K w hb sv A size c) (c' : Int) : Raw st en K (w.setCell ⟨hb, 2, none⟩ (.int .i64 c')) hb sv A size c' := by
  refine ⟨heap_set2 h.hdr _, ?_, h.apart, h.wide⟩
  exact row_keep h.row fun k hk => heap_setCell_other _ _ _ _ (fun e => h.apart (by rw [hk]; simp [e]))

theorem Raw.append {g cap : Nat} (h : Raw st en K w hb sv A size c) (s : Slot) (hs : s.val.length + 2 = K) (hg : w.grownBy w' sv.ownBlock) (hown : w'.ownsRow 0 en K (.slice (some ⟨g, 0, none⟩) (A.length + 1) cap) (A.length + 1) (flat A ++ enc s))
    (hat : sv.ownBlock = some g ∨ w.heap.size ≤ g) : Raw st en K (w'.setCell ⟨hb, 0, none⟩ (.slice (some ⟨g, 0, none⟩) (A.length + 1) cap)) hb (.slice (some ⟨g, 0, none⟩) (A.length + 1) cap) (A ++ [s]) size c := by
  have hgb : g ≠ hb := by
    intro e
    rcases hat with h1 | h1
    · exact h.apart (by rw [h1, e])
    · have := h.lt; omega
  refine ⟨heap_set0 ((hg.block hb h.lt (fun e => h.apart e.symm)).trans h.hdr) _, ?_, by simp [Value.ownBlock, hgb], h.wide.push hs⟩
  rw [List.length_append, flat_append]
  rw [show flat [s] = enc s by simp [flat]]
  refine row_keep hown fun k hk => heap_setCell_other _ _ _ _ (fun e => ?_)
  simp [Value.ownBlock] at hk
  exact hgb (hk.trans e)
end

/-! ### counting -/

def cnt (A : List Slot) : Nat := A.countP (fun s => s.used)

theorem cnt_le (A : List Slot) : cnt A ≤ A.length := List.countP_le_length

theorem cnt_all {A : List Slot} (h : ∀ (i : Nat) (s : Slot), A[i]? = some s → s.used = true) : cnt A = A.length := by
  unfold cnt
  rw [List.countP_eq_length]
  intro s hs
  obtain ⟨i, hi⟩ := List.mem_iff_getElem?.1 hs
  exact h i s hi

theorem all_of_cnt {A : List Slot} (h : cnt A = A.length) : ∀ (i : Nat) (s : Slot), A[i]? = some s → s.used = true := by
  intro i s hi
  unfold cnt at h
  rw [List.countP_eq_length] at h
  exact h s (List.mem_of_getElem? hi)

theorem cnt_set {A : List Slot} : ∀ (i : Nat) (s s' : Slot), A[i]? = some s → cnt (A.set i s') + (if s.used then 1 else 0) = cnt A + (if s'.used then 1 else 0) := by
  induction A with
  | nil => intro i s s' hi; simp at hi
  | cons a A ih =>
    intro i s s' hi
    cases i with
    | zero =>
      simp at hi
      subst hi
      simp only [List.set_cons_zero, cnt, List.countP_cons]
      omega
    | succ i =>
      have := ih i s s' (by simpa using hi)
      simp only [List.set_cons_succ, cnt, List.countP_cons] at this ⊢
      omega

theorem cnt_push (A : List Slot) (s : Slot) : cnt (A ++ [s]) = cnt A + (if s.used then 1 else 0) := by simp [cnt, List.countP_append, List.countP_cons]

structure Sound (V : List Value → Prop) (A : List Slot) (size : Nat) (B : Int) : Prop where
  gen : ∀ s ∈ A, 0 ≤ s.gen ∧ s.gen ≤ B
  val : ∀ s ∈ A, V s.val
  len : A.length ≤ size
  size : size ≤ 4096

structure ArenaAt (V : List Value → Prop) (st en : TypeId) (K : Nat) (S : Nat → Prop) (w : World) (hb : Nat) (A : List Slot) (size : Nat) (B : Int) : Prop where
  raw : ∃ sv, Raw st en K w hb sv A size (cnt A) ∧ ∀ k, Own hb sv k → S k
  good : Sound V A size B

section
variable {V : List Value → Prop} {st en : TypeId} {K : Nat} {S T : Nat → Prop} {w w' : World} {hb : Nat} {A : List Slot} {size : Nat} {B : Int}

theorem ArenaAt.fr (h : ArenaAt V st en K S w hb A size B) (hf : Fr T w w') (hT : ∀ k, S k → ¬ T k) : ArenaAt V st en K S w' hb A size B := by
  obtain ⟨⟨sv, hr, hs⟩, hg⟩ := h
  exact ⟨⟨sv, hr.fr hf (fun k hk => hT k (hs k hk)), hs⟩, hg⟩
theorem ArenaAt.frNo (h : ArenaAt V st en K S w hb A size B) (hf : Fr No w w') : ArenaAt V st en K S w' hb A size B := h.fr hf fun _ _ h => h
theorem ArenaAt.mono (h : ArenaAt V st en K S w hb A size B) (hT : ∀ k, k < w.heap.size → S k → T k) : ArenaAt V st en K T w hb A size B := by
  obtain ⟨⟨sv, hr, hs⟩, hg⟩ := h
  exact ⟨⟨sv, hr, fun k hk => hT k (hr.own_lt hk) (hs k hk)⟩, hg⟩
theorem ArenaAt.lt (h : ArenaAt V st en K S w hb A size B) : hb < w.heap.size := by
  obtain ⟨⟨sv, hr, hs⟩, hg⟩ := h
  exact hr.lt
end

/-! ### the free slot with the smallest index -/

def Free (A : List Slot) (i : Nat) : Prop := (∀ (j : Nat) (s : Slot), j < i → A[j]? = some s → s.used = true) ∧ (i < A.length → ∃ s, A[i]? = some s ∧ s.used = false) ∧ i ≤ A.length

theorem Free.unique {A : List Slot} {i j : Nat} (h : Free A i) (k : Free A j) : i = j := by
  rcases Nat.lt_trichotomy i j with h1 | h1 | h1
  · obtain ⟨s, hs, hu⟩ := h.2.1 (Nat.lt_of_lt_of_le h1 k.2.2)
    have := k.1 i s h1 hs
    rw [hu] at this; cases this
  · exact h1
  · obtain ⟨s, hs, hu⟩ := k.2.1 (Nat.lt_of_lt_of_le h1 h.2.2)
    have := h.1 j s h1 hs
    rw [hu] at this; cases this

theorem Free.full {A : List Slot} (h : cnt A = A.length) : Free A A.length :=
  ⟨fun j s _ hs => all_of_cnt h j s hs, fun h => absurd h (Nat.lt_irrefl _), Nat.le_refl _⟩

end Go.Proofs.Ytgelgnakhghpkaa
