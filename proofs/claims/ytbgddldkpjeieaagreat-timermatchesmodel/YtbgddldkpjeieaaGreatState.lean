/-
  How a heap of this package lies in memory, and what a frame of a call leaves alone; no walk.
  Conditions: as each theorem says.
-/
import Derived.Test.YtbgddldkpjeieaaGreatCmp
import Derived.Maps.OwnSet
import Derived.Deep.AppendLies
namespace Go.Proofs.YtbgddldkpjeieaaGreat
open Go.ChangeShapes Go.WideShapes Go.ChangeAt Go.RowKit Go.Maps
set_option linter.unusedVariables false

structure Ent where
  due : Int
  id : Int
  val : Value

instance : Inhabited Ent := ⟨⟨0, 0, undef⟩⟩

def flat : List Ent → List Value
  | [] => []
  | e :: A => .int .u64 e.due :: .int .i64 e.id :: e.val :: flat A

theorem flat_length (A : List Ent) : (flat A).length = A.length * 3 := by
  induction A with
  | nil => rfl
  | cons e A ih => simp [flat, ih]; omega

theorem flat_get (A : List Ent) : ∀ (i : Nat) (e : Ent), A[i]? = some e → (flat A)[i * 3]? = some (.int .u64 e.due) ∧ (flat A)[i * 3 + 1]? = some (.int .i64 e.id) ∧ (flat A)[i * 3 + 2]? = some e.val := by
  induction A with
  | nil => intro i e h; simp at h
  | cons a A ih =>
    intro i e h
    cases i with
    | zero => simp at h; subst h; simp [flat]
    | succ i =>
      have h' : A[i]? = some e := by simpa using h
      have := ih i e h'
      rw [show (i + 1) * 3 = i * 3 + 1 + 1 + 1 by omega]
      simpa [flat, Nat.add_right_comm] using this

theorem flat_set (A : List Ent) : ∀ (i : Nat) (e : Ent), (((flat A).set (i * 3) (.int .u64 e.due)).set (i * 3 + 1) (.int .i64 e.id)).set (i * 3 + 2) e.val = flat (A.set i e) := by
  induction A with
  | nil => intro i e; simp [flat]
  | cons a A ih =>
    intro i e
    cases i with
    | zero => simp [flat]
    | succ i =>
      rw [show (i + 1) * 3 = i * 3 + 1 + 1 + 1 by omega, show i * 3 + 1 + 1 + 1 + 1 = (i * 3 + 1) + 1 + 1 + 1 by omega, show i * 3 + 1 + 1 + 1 + 2 = (i * 3 + 2) + 1 + 1 + 1 by omega]
      simp only [flat, List.set_cons_succ]
      rw [ih]

theorem flat_append (A B : List Ent) : flat (A ++ B) = flat A ++ flat B := by
  induction A with
  | nil => rfl
  | cons a A ih => simp [flat, ih]

theorem flat_take (A : List Ent) : ∀ n : Nat, (flat A).take (n * 3) = flat (A.take n) := by
  induction A with
  | nil => intro n; simp [flat]
  | cons a A ih =>
    intro n
    cases n with
    | zero => simp [flat]
    | succ n =>
      rw [show (n + 1) * 3 = n * 3 + 1 + 1 + 1 by omega]
      simp [flat, ih]

/-! ### frames -/

structure Fr (S : Nat → Prop) (w w' : World) : Prop where
  os : w'.os = w.os
  tape : w'.tape = w.tape
  output : w'.output = w.output
  size : w.heap.size ≤ w'.heap.size
  block : ∀ k, k < w.heap.size → ¬ S k → w'.heap[k]? = w.heap[k]?

def No : Nat → Prop := fun _ => False

theorem Fr.refl (S : Nat → Prop) (w : World) : Fr S w w := ⟨rfl, rfl, rfl, Nat.le_refl _, fun _ _ _ => rfl⟩
theorem Fr.trans {S : Nat → Prop} {a b c : World} (h : Fr S a b) (k : Fr S b c) : Fr S a c :=
  ⟨k.os.trans h.os, k.tape.trans h.tape, k.output.trans h.output, Nat.le_trans h.size k.size, fun i hi hs => (k.block i (Nat.lt_of_lt_of_le hi h.size) hs).trans (h.block i hi hs)⟩
theorem Fr.mono {S T : Nat → Prop} {a b : World} (h : Fr S a b) (hST : ∀ k, k < a.heap.size → S k → T k) : Fr T a b :=
  ⟨h.os, h.tape, h.output, h.size, fun k hk ht => h.block k hk (fun hs => ht (hST k hk hs))⟩
theorem Fr.no {S : Nat → Prop} {a b : World} (h : Fr No a b) : Fr S a b := h.mono fun _ _ h => h.elim
theorem Fr.grow (w : World) (q : Nat) (os : Array Obj) : Fr No w (Go.Sort.grow (w.drewN q) os) :=
  ⟨rfl, rfl, rfl, by simp [Go.Sort.grow, World.drewN], fun k hk _ => by simp [Go.Sort.grow, World.drewN, Array.getElem?_append, hk]⟩
theorem Fr.drew (S : Nat → Prop) (w : World) : Fr S w w.drew := ⟨rfl, rfl, rfl, Nat.le_refl _, fun _ _ _ => rfl⟩
theorem Fr.alloc (S : Nat → Prop) (w : World) (o : Obj) : Fr S w (w.alloc o) := ⟨rfl, rfl, rfl, by simp, fun k hk _ => Below.heap_alloc _ _ _ hk⟩
theorem Fr.setCell (S : Nat → Prop) (w : World) (a : Addr) (u : Value) (h : S a.block) : Fr S w (w.setCell a u) :=
  ⟨rfl, rfl, rfl, by simp [World.setCell], fun k hk hs => Below.heap_setCell _ _ _ _ (fun e => hs (e ▸ h))⟩
theorem Fr.grown {S : Nat → Prop} {w w' : World} {row : Option Nat} (hg : w.grownBy w' row) (h : ∀ k, row = some k → S k) : Fr S w w' :=
  ⟨hg.os, hg.tape, hg.output, hg.size, fun k hk hs => hg.block k hk (fun e => hs (h k e.symm))⟩
theorem Fr.below {S : Nat → Prop} {B : Nat} {w w' : World} (h : Fr S w w') (hS : ∀ k, S k → B ≤ k) (hB : B ≤ w.heap.size) : Below B w w' :=
  ⟨h.os, h.tape, h.output, h.size, fun k hk => h.block k (by omega) (fun hs => by have := hS k hs; omega)⟩
theorem Fr.ofBelow {w w' : World} (h : Below w.heap.size w w') (S : Nat → Prop) : Fr S w w' := ⟨h.os, h.tape, h.output, h.size, fun k hk _ => h.block k hk⟩

/-! ### the map of places -/

abbrev key (k : Int) : Lit := .int .i64 k
abbrev lit (k : Int) : DataW Unit := .lit (.int .i64 k)

theorem isKey (k : Int) : WideAt.IsKeyLit (key k) := by simp [WideAt.IsKeyLit]

structure Tied (D : DataW Unit) (A : List Ent) : Prop where
  tidy : Tidy D
  size : Maps.size D = A.length
  at_ : ∀ (i : Nat) (e : Ent), A[i]? = some e → Maps.has D (key e.id) = true ∧ D.atKey (key e.id) (lit 0) = lit i
  only : ∀ k, Maps.has D (key k) = true → ∃ (i : Nat) (e : Ent), A[i]? = some e ∧ e.id = k

theorem Tied.inj {D : DataW Unit} {A : List Ent} (h : Tied D A) {i j : Nat} {e e' : Ent} (hi : A[i]? = some e) (hj : A[j]? = some e') (hid : e.id = e'.id) : i = j := by
  have h1 := (h.at_ i e hi).2
  have h2 := (h.at_ j e' hj).2
  rw [hid, h2] at h1
  simp at h1
  omega

theorem Tied.empty : Tied (.map []) [] := ⟨tidy_empty, rfl, fun i e h => by simp at h, fun k h => by simp [Maps.has] at h⟩

theorem key_ne {a b : Int} (h : a ≠ b) : key a ≠ key b := by intro e; cases e; exact h rfl

def swp (A : List Ent) (i j : Nat) (ei ej : Ent) : List Ent := (A.set i ej).set j ei

theorem swp_length (A : List Ent) (i j : Nat) (ei ej : Ent) : (swp A i j ei ej).length = A.length := by simp [swp]

theorem swp_get {A : List Ent} {i j : Nat} {ei ej : Ent} (hi : A[i]? = some ei) (hj : A[j]? = some ej) (k : Nat) : (swp A i j ei ej)[k]? = if k = j then some ei else if k = i then some ej else A[k]? := by
  have hil : i < A.length := (List.getElem?_eq_some_iff.1 hi).1
  have hjl : j < A.length := (List.getElem?_eq_some_iff.1 hj).1
  unfold swp
  rw [List.getElem?_set]
  by_cases h1 : j = k
  · subst h1; simp [hjl]
  · rw [if_neg h1, if_neg (fun e => h1 e.symm), List.getElem?_set]
    by_cases h2 : i = k
    · subst h2; simp [hil]
    · rw [if_neg h2, if_neg (fun e => h2 e.symm)]

theorem Tied.swap {D : DataW Unit} {A : List Ent} (h : Tied D A) {i j : Nat} {ei ej : Ent} (hi : A[i]? = some ei) (hj : A[j]? = some ej) :
    Tied ((D.put (key ej.id) (lit i)).put (key ei.id) (lit j)) (swp A i j ei ej) := by
  have hhi := (h.at_ i ei hi).1
  have hhj := (h.at_ j ej hj).1
  have hm := h.tidy.isMap
  have t1 : Tidy (D.put (key ej.id) (lit i)) := h.tidy.put (isKey _) _
  have m1 := t1.isMap
  refine ⟨t1.put (isKey _) _, ?_, ?_, ?_⟩
  · rw [size_put t1]
    have : Maps.has (D.put (key ej.id) (lit i)) (key ei.id) = true := by
      by_cases e : ei.id = ej.id
      · rw [e]; exact has_put_same hm (isKey _) _
      · rw [has_put_other (key_ne e)]; exact hhi
    rw [this, if_pos rfl, size_put h.tidy, hhj, if_pos rfl, swp_length, h.size]
  · intro k e hk
    rw [swp_get hi hj] at hk
    by_cases h1 : k = j
    · rw [if_pos h1] at hk
      cases hk
      subst h1
      exact ⟨has_put_same m1 (isKey _) _, atKey_put_same m1 (isKey _) _ _⟩
    · rw [if_neg h1] at hk
      by_cases h2 : k = i
      · rw [if_pos h2] at hk
        cases hk
        subst h2
        have hne : ej.id ≠ ei.id := fun e => h1 (h.inj hi hj e.symm)
        rw [has_put_other (key_ne hne), atKey_put_other (key_ne hne)]
        exact ⟨has_put_same hm (isKey _) _, atKey_put_same hm (isKey _) _ _⟩
      · rw [if_neg h2] at hk
        have n1 : e.id ≠ ei.id := fun e' => h2 (h.inj hk hi e')
        have n2 : e.id ≠ ej.id := fun e' => h1 (h.inj hk hj e')
        rw [has_put_other (key_ne n1), atKey_put_other (key_ne n1), has_put_other (key_ne n2), atKey_put_other (key_ne n2)]
        exact h.at_ k e hk
  · intro k hk
    have key_of : ∃ (i : Nat) (e : Ent), A[i]? = some e ∧ e.id = k := by
      by_cases n1 : k = ei.id
      · exact ⟨i, ei, hi, n1.symm⟩
      · by_cases n2 : k = ej.id
        · exact ⟨j, ej, hj, n2.symm⟩
        · rw [has_put_other (key_ne n1), has_put_other (key_ne n2)] at hk
          exact h.only k hk
    obtain ⟨m, e, hm, he⟩ := key_of
    by_cases h1 : m = i
    · subst h1
      rw [hi] at hm
      cases hm
      exact ⟨j, ei, by rw [swp_get hi hj, if_pos rfl], he⟩
    · by_cases h2 : m = j
      · subst h2
        rw [hj] at hm
        cases hm
        exact ⟨i, ej, by rw [swp_get hi hj, if_neg (fun e => h1 e.symm), if_pos rfl], he⟩
      · exact ⟨m, e, by rw [swp_get hi hj, if_neg h2, if_neg h1]; exact hm, he⟩

theorem Tied.push {D : DataW Unit} {A : List Ent} (h : Tied D A) (e : Ent) (hnew : ∀ (i : Nat) (e' : Ent), A[i]? = some e' → e'.id ≠ e.id) : Tied (D.put (key e.id) (lit A.length)) (A ++ [e]) := by
  have hn : Maps.has D (key e.id) = false := by
    cases hh : Maps.has D (key e.id) with
    | false => rfl
    | true => obtain ⟨i, e', hi, he⟩ := h.only _ hh; exact absurd he (hnew i e' hi)
  have hm := h.tidy.isMap
  refine ⟨h.tidy.put (isKey _) _, ?_, ?_, ?_⟩
  · rw [size_put h.tidy, hn]; simp [h.size]
  · intro i e' hi
    by_cases hl : i < A.length
    · rw [List.getElem?_append_left hl] at hi
      have n1 := hnew i e' hi
      rw [has_put_other (key_ne n1), atKey_put_other (key_ne n1)]
      exact h.at_ i e' hi
    · have hb := (List.getElem?_eq_some_iff.1 hi).1
      simp at hb
      obtain rfl : i = A.length := by omega
      simp at hi
      subst hi
      exact ⟨has_put_same hm (isKey _) _, atKey_put_same hm (isKey _) _ _⟩
  · intro k hk
    by_cases n1 : k = e.id
    · exact ⟨A.length, e, by simp, n1.symm⟩
    · rw [has_put_other (key_ne n1)] at hk
      obtain ⟨i, e', hi, he⟩ := h.only k hk
      exact ⟨i, e', by rw [List.getElem?_append_left (List.getElem?_eq_some_iff.1 hi).1]; exact hi, he⟩

theorem Tied.drop {D : DataW Unit} {A : List Ent} {e : Ent} (h : Tied D (A ++ [e])) : Tied (D.del (key e.id)) A := by
  have hl : (A ++ [e])[A.length]? = some e := by simp
  have hh := (h.at_ _ _ hl).1
  have ne : ∀ (i : Nat) (e' : Ent), A[i]? = some e' → e'.id ≠ e.id := by
    intro i e' hi hid
    have hb := (List.getElem?_eq_some_iff.1 hi).1
    have := h.inj (i := i) (e := e') (by rw [List.getElem?_append_left hb]; exact hi) hl hid
    omega
  refine ⟨h.tidy.del _, ?_, ?_, ?_⟩
  · have := size_del h.tidy (k := key e.id)
    rw [hh, if_pos rfl, h.size] at this
    simp at this
    omega
  · intro i e' hi
    have hb := (List.getElem?_eq_some_iff.1 hi).1
    have n1 := ne i e' hi
    rw [has_del_other (key_ne n1), atKey_del_other (key_ne n1)]
    exact h.at_ i e' (by rw [List.getElem?_append_left hb]; exact hi)
  · intro k hk
    by_cases n1 : k = e.id
    · subst n1; rw [has_del_same] at hk; cases hk
    · rw [has_del_other (key_ne n1)] at hk
      obtain ⟨i, e', hi, he⟩ := h.only k hk
      by_cases hb : i < A.length
      · rw [List.getElem?_append_left hb] at hi; exact ⟨i, e', hi, he⟩
      · have hb2 := (List.getElem?_eq_some_iff.1 hi).1
        simp at hb2
        obtain rfl : i = A.length := by omega
        simp at hi
        subst hi
        exact absurd he (fun e => n1 e.symm)

/-- A due time changes; the handle stays. -/
theorem Tied.due {D : DataW Unit} {A : List Ent} (h : Tied D A) {i : Nat} {e : Ent} (hi : A[i]? = some e) (d : Int) : Tied D (A.set i { e with due := d }) := by
  have hil : i < A.length := (List.getElem?_eq_some_iff.1 hi).1
  have hget : ∀ k, (A.set i { e with due := d })[k]? = if k = i then some { e with due := d } else A[k]? := by
    intro k
    rw [List.getElem?_set]
    by_cases hk : i = k
    · subst hk; simp [hil]
    · rw [if_neg hk, if_neg (fun e => hk e.symm)]
  refine ⟨h.tidy, by simp [h.size], ?_, ?_⟩
  · intro k e' hk
    rw [hget] at hk
    split at hk
    · rename_i hki; cases hk; subst hki; exact h.at_ k e hi
    · exact h.at_ k e' hk
  · intro k hk
    obtain ⟨m, e', hm, he⟩ := h.only k hk
    by_cases hmi : m = i
    · subst hmi
      rw [hi] at hm
      cases hm
      exact ⟨m, { e with due := d }, by rw [hget, if_pos rfl], he⟩
    · exact ⟨m, e', by rw [hget, if_neg hmi]; exact hm, he⟩

theorem ownsMap_tight {w : World} {P : Program} {k : TypeId} {R : Value → Option (DataW Unit × List MemPlace)} {b n : Nat} {D : DataW Unit} (h : w.ownsMap P k R b n D) {m : Nat} (hm : Maps.size D = m) : w.ownsMap P k R b m D := by
  obtain ⟨es, clock, hb, F, hs, rfl⟩ := h
  refine ⟨es, clock, hb, F, ?_, rfl⟩
  rw [size_eq, length_sorted] at hm
  simp at hm
  omega

/-! ### a heap in memory -/

structure Sound (V : Value → Prop) (A : List Ent) (last : Int) : Prop where
  due : ∀ (i : Nat) (e : Ent), A[i]? = some e → 0 ≤ e.due ∧ e.due ≤ 18446744073709551615
  id : ∀ (i : Nat) (e : Ent), A[i]? = some e → 1 ≤ e.id ∧ e.id ≤ last
  val : ∀ (i : Nat) (e : Ent), A[i]? = some e → V e.val
  len : A.length ≤ 1000
  last : 0 ≤ last ∧ last ≤ 1000

structure Raw (st en : TypeId) (w : World) (hb mb : Nat) (sv : Value) (A : List Ent) (last : Int) (n : Nat) (D : DataW Unit) : Prop where
  hdr : w.heap[hb]? = some (.cells #[sv, .map (some mb), .int .i64 last] st (0, 0))
  row : w.ownsRow 0 en 3 sv A.length (flat A)
  map : w.ownsMap Tryz.prog 3 (plainElem Tryz.prog 3) mb n D
  apart : sv.ownBlock ≠ some hb

def Own (hb mb : Nat) (sv : Value) (k : Nat) : Prop := k = hb ∨ k = mb ∨ sv.ownBlock = some k

section
variable {st en : TypeId} {w w' : World} {hb mb n : Nat} {sv : Value} {A : List Ent} {last : Int} {D : DataW Unit}

theorem Raw.lt (h : Raw st en w hb mb sv A last n D) : hb < w.heap.size := (Array.getElem?_eq_some_iff.1 h.hdr).1
theorem Raw.mlt (h : Raw st en w hb mb sv A last n D) : mb < w.heap.size := h.map.lt
theorem Raw.rlt (h : Raw st en w hb mb sv A last n D) {k : Nat} (hk : sv.ownBlock = some k) : k < w.heap.size := (h.row.lt k hk).2
theorem Raw.mne (h : Raw st en w hb mb sv A last n D) : mb ≠ hb := by
  intro e
  obtain ⟨es, clock, hm, _⟩ := h.map
  rw [e, h.hdr] at hm
  cases hm
theorem Raw.rne (h : Raw st en w hb mb sv A last n D) : sv.ownBlock ≠ some mb := by
  intro e
  obtain ⟨es, clock, hm, _⟩ := h.map
  rcases h.row.2 with ⟨hv, _⟩ | ⟨g, cap, cur, hv, _, hg, _⟩
  · rw [hv] at e; cases e
  · rw [hv] at e
    simp [Value.ownBlock] at e
    rw [e, hm] at hg
    cases hg
theorem Raw.own_lt (h : Raw st en w hb mb sv A last n D) {k : Nat} (hk : Own hb mb sv k) : k < w.heap.size := by
  rcases hk with rfl | rfl | hk
  · exact h.lt
  · exact h.mlt
  · exact h.rlt hk

theorem row_keep {xs : List Value} {m : Nat} (h : w.ownsRow 0 en 3 sv m xs) (hw : ∀ k, sv.ownBlock = some k → w'.heap[k]? = w.heap[k]?) : w'.ownsRow 0 en 3 sv m xs := by
  refine ⟨h.1, ?_⟩
  rcases h.2 with h1 | ⟨g, cap, cur, hv, hb', hg, hr⟩
  · exact .inl h1
  · exact .inr ⟨g, cap, cur, hv, hb', (hw g (by rw [hv]; rfl)).trans hg, hr⟩

/-- A heap that a call does not touch stays what it is. -/
theorem Raw.keep (h : Raw st en w hb mb sv A last n D) (hw : ∀ k, Own hb mb sv k → w'.heap[k]? = w.heap[k]?) : Raw st en w' hb mb sv A last n D := by
  obtain ⟨es, clock, hm, hF⟩ := h.map
  exact ⟨(hw hb (.inl rfl)).trans h.hdr, row_keep h.row (fun k hk => hw k (.inr (.inr hk))), ⟨es, clock, (hw mb (.inr (.inl rfl))).trans hm, hF⟩, h.apart⟩

theorem Raw.fr {S : Nat → Prop} (h : Raw st en w hb mb sv A last n D) (hf : Fr S w w') (hS : ∀ k, Own hb mb sv k → ¬ S k) : Raw st en w' hb mb sv A last n D :=
  h.keep fun k hk => hf.block k (h.own_lt hk) (hS k hk)

theorem Raw.drew (h : Raw st en w hb mb sv A last n D) : Raw st en w.drew hb mb sv A last n D := h.keep fun _ _ => rfl
theorem Raw.alloc (h : Raw st en w hb mb sv A last n D) (o : Obj) : Raw st en (w.alloc o) hb mb sv A last n D := h.fr (Fr.alloc No w o) fun _ _ h => h

theorem Raw.form (h : Raw st en w hb mb sv A last n D) (hn : 0 < A.length) : ∃ g cap, sv = .slice (some ⟨g, 0, none⟩) A.length cap := by
  obtain ⟨g, cap, hv, _⟩ := h.row.form hn
  exact ⟨g, cap, hv⟩

theorem Raw.hcell (h : Raw st en w hb mb sv A last n D) : w.cell? ⟨hb, 0, none⟩ = some sv ∧ w.cell? ⟨hb, 1, none⟩ = some (.map (some mb)) ∧ w.cell? ⟨hb, 2, none⟩ = some (.int .i64 last) := by
  refine ⟨?_, ?_, ?_⟩ <;> rw [cell_of_row w hb _ _ _ _ h.hdr] <;> rfl

theorem Raw.hfrozen (h : Raw st en w hb mb sv A last n D) (j : Nat) : w.frozen? ⟨hb, j, none⟩ = false := frozen_of_row w hb j _ _ h.hdr

theorem Raw.ecell {g m cap : Nat} (h : Raw st en w hb mb (.slice (some ⟨g, 0, none⟩) m cap) A last n D) {i : Nat} {e : Ent} (hi : A[i]? = some e) :
    w.cell? ⟨g, i * 3, none⟩ = some (.int .u64 e.due) ∧ w.cell? ⟨g, i * 3 + 1, none⟩ = some (.int .i64 e.id) ∧ w.cell? ⟨g, i * 3 + 2, none⟩ = some e.val := by
  have hil : i < A.length := (List.getElem?_eq_some_iff.1 hi).1
  obtain ⟨g', cap', hv⟩ := h.form (by omega)
  cases hv
  have := flat_get A i e hi
  rw [h.row.cellAt _ (by omega), h.row.cellAt _ (by omega), h.row.cellAt _ (by omega)]
  exact this

theorem Raw.efrozen {g m cap : Nat} (h : Raw st en w hb mb (.slice (some ⟨g, 0, none⟩) m cap) A last n D) (hn : A.length = m) (j : Nat) : w.frozen? ⟨g, j, none⟩ = false := by
  subst hn
  exact h.row.frozenAt j

theorem row_put {g m cap : Nat} (h : w.ownsRow 0 en 3 (.slice (some ⟨g, 0, none⟩) m cap) m (flat A)) (i : Nat) (e : Ent) :
    (((w.setCell ⟨g, i * 3, none⟩ (.int .u64 e.due)).setCell ⟨g, i * 3 + 1, none⟩ (.int .i64 e.id)).setCell ⟨g, i * 3 + 2, none⟩ e.val).ownsRow 0 en 3 (.slice (some ⟨g, 0, none⟩) m cap) m (flat (A.set i e)) := by
  have h1 := (h.stored (i * 3) (.int .u64 e.due)).1
  have h2 := (h1.stored (i * 3 + 1) (.int .i64 e.id)).1
  have h3 := (h2.stored (i * 3 + 2) e.val).1
  rw [flat_set] at h3
  exact h3

/-- One entry is written. -/
theorem Raw.put {g m cap : Nat} (h : Raw st en w hb mb (.slice (some ⟨g, 0, none⟩) m cap) A last n D) (hm : A.length = m) (i : Nat) (e : Ent) :
    Raw st en (((w.setCell ⟨g, i * 3, none⟩ (.int .u64 e.due)).setCell ⟨g, i * 3 + 1, none⟩ (.int .i64 e.id)).setCell ⟨g, i * 3 + 2, none⟩ e.val) hb mb (.slice (some ⟨g, 0, none⟩) m cap) (A.set i e) last n D := by
  have hg : g ≠ hb := fun e => h.apart (by simp [Value.ownBlock, e])
  have hg' : g ≠ mb := fun e => h.rne (by simp [Value.ownBlock, e])
  subst hm
  refine ⟨?_, by rw [List.length_set]; exact row_put h.row i e, ?_, h.apart⟩
  · rw [heap_setCell_other _ _ _ _ hg.symm, heap_setCell_other _ _ _ _ hg.symm, heap_setCell_other _ _ _ _ hg.symm]; exact h.hdr
  · exact ((h.map.setCell (a := ⟨g, i * 3, none⟩) hg'.symm _).setCell (a := ⟨g, i * 3 + 1, none⟩) hg'.symm _).setCell (a := ⟨g, i * 3 + 2, none⟩) hg'.symm _

theorem Fr.put {hb mb g m cap : Nat} (w : World) (o1 o2 o3 : Nat) (a b c : Value) : Fr (Own hb mb (.slice (some ⟨g, 0, none⟩) m cap)) w (((w.setCell ⟨g, o1, none⟩ a).setCell ⟨g, o2, none⟩ b).setCell ⟨g, o3, none⟩ c) :=
  have S : Own hb mb (.slice (some ⟨g, 0, none⟩) m cap) g := .inr (.inr rfl)
  ((Fr.setCell _ w ⟨g, o1, none⟩ a S).trans (Fr.setCell _ _ ⟨g, o2, none⟩ b S)).trans (Fr.setCell _ _ ⟨g, o3, none⟩ c S)

/-- The map is written. -/
theorem Raw.turn {n' : Nat} {D' : DataW Unit} (h : Raw st en w hb mb sv A last n D) (hm : w'.ownsMap Tryz.prog 3 (plainElem Tryz.prog 3) mb n' D') (ht : w.mapTurned w' mb) : Raw st en w' hb mb sv A last n' D' := by
  have hg := ht.grown
  refine ⟨(hg.block hb h.lt (by simp; exact h.mne.symm)).trans h.hdr, ?_, hm, h.apart⟩
  exact row_keep h.row fun k hk => hg.block k (h.rlt hk) (fun e => h.rne (by rw [hk, e]))

theorem Fr.turn {hb mb : Nat} {sv : Value} (ht : w.mapTurned w' mb) : Fr (Own hb mb sv) w w' := Fr.grown ht.grown fun k hk => by cases hk; exact .inr (.inl rfl)
end

structure HeapAt (V : Value → Prop) (st en : TypeId) (w : World) (hb mb : Nat) (sv : Value) (A : List Ent) (last : Int) : Prop where
  raw : ∃ D, Raw st en w hb mb sv A last A.length D ∧ Tied D A
  good : Sound V A last

section
variable {V : Value → Prop} {st en : TypeId} {w w' : World} {hb mb : Nat} {sv : Value} {A : List Ent} {last : Int}

theorem HeapAt.keep (h : HeapAt V st en w hb mb sv A last) (hw : ∀ k, Own hb mb sv k → w'.heap[k]? = w.heap[k]?) : HeapAt V st en w' hb mb sv A last := by
  obtain ⟨⟨D, hr, ht⟩, hg⟩ := h
  exact ⟨⟨D, hr.keep hw, ht⟩, hg⟩
theorem HeapAt.own_lt (h : HeapAt V st en w hb mb sv A last) {k : Nat} (hk : Own hb mb sv k) : k < w.heap.size := by
  obtain ⟨⟨D, hr, ht⟩, hg⟩ := h
  exact hr.own_lt hk
theorem HeapAt.fr {S : Nat → Prop} (h : HeapAt V st en w hb mb sv A last) (hf : Fr S w w') (hS : ∀ k, Own hb mb sv k → ¬ S k) : HeapAt V st en w' hb mb sv A last :=
  h.keep fun k hk => hf.block k (h.own_lt hk) (hS k hk)
theorem HeapAt.frNo (h : HeapAt V st en w hb mb sv A last) (hf : Fr No w w') : HeapAt V st en w' hb mb sv A last := h.fr hf fun _ _ h => h
theorem HeapAt.form (h : HeapAt V st en w hb mb sv A last) (hn : 0 < A.length) : ∃ g cap, sv = .slice (some ⟨g, 0, none⟩) A.length cap := by
  obtain ⟨⟨D, hr, ht⟩, hg⟩ := h
  exact hr.form hn
end

theorem Sound.swap {V : Value → Prop} {A : List Ent} {last : Int} (h : Sound V A last) {i j : Nat} {ei ej : Ent} (hi : A[i]? = some ei) (hj : A[j]? = some ej) : Sound V (swp A i j ei ej) last := by
  have key : ∀ (k : Nat) (e : Ent), (swp A i j ei ej)[k]? = some e → ∃ m : Nat, A[m]? = some e := by
    intro k e hk
    rw [swp_get hi hj] at hk
    split at hk
    · cases hk; exact ⟨i, hi⟩
    · split at hk
      · cases hk; exact ⟨j, hj⟩
      · exact ⟨k, hk⟩
  exact ⟨fun k e hk => let ⟨m, hm⟩ := key k e hk; h.due m e hm, fun k e hk => let ⟨m, hm⟩ := key k e hk; h.id m e hm, fun k e hk => let ⟨m, hm⟩ := key k e hk; h.val m e hm, by rw [swp_length]; exact h.len, h.last⟩

theorem law3 : Keyed Tryz.prog 3 := int_keyed Tryz.underlying3
theorem zero3 (w : World) : (zeroValue 3).run Tryz.prog w = .ok (.int .i64 0) w := by kernel_rfl

end Go.Proofs.YtbgddldkpjeieaaGreat
