/-
  How a heap whose values are addresses (an entry of 19 cells) lies in memory; no walk.
  Conditions: as each theorem says.
-/
import Derived.Test.YtbobokhlcbojkaaOrd2
import Derived.Laws.IdiomCopy
import Derived.Shelf.SlicesQ.Load
namespace Go.Proofs.Ytbobokhlcbojkaa.A
open Go.ChangeShapes Go.WideShapes Go.ChangeAt Go.RowKit Go.Maps
set_option linter.unusedVariables false

/-- The 17 cells of a value. -/
def pad (l : List Value) : List Value := (l ++ List.replicate 17 undef).take 17
theorem pad_length (l : List Value) : (pad l).length = 17 := by simp [pad]
theorem pad_self {l : List Value} (h : l.length = 17) : pad l = l := by unfold pad; rw [← h, List.take_left']; rfl

def enc (e : Ent) : List Value := .int .u64 e.due :: .int .i64 e.id :: pad e.val.cells.toList
theorem enc_length (e : Ent) : (enc e).length = 19 := by simp [enc, pad_length]

def V (v : Value) : Prop := ∃ cs : Array Value, v = .agg cs ∧ cs.size = 17 ∧ ∀ u ∈ cs.toList, u.oneCell' = true

theorem enc_mk (d i : Int) {cs : Array Value} (h : cs.size = 17) : enc ⟨d, i, .agg cs⟩ = .int .u64 d :: .int .i64 i :: cs.toList := by
  simp only [enc, Value.cells]
  rw [pad_self (by simpa using h)]

theorem enc_one {e : Ent} (h : V e.val) : ∀ u ∈ enc e, u.oneCell' = true := by
  obtain ⟨d, i, v⟩ := e
  obtain ⟨cs, rfl, h1, h2⟩ := h
  rw [enc_mk d i h1]
  intro u hu
  simp only [List.mem_cons] at hu
  rcases hu with rfl | rfl | hu
  · rfl
  · rfl
  · exact h2 u hu

def flat : List Ent → List Value
  | [] => []
  | e :: A => enc e ++ flat A

theorem flat_length (A : List Ent) : (flat A).length = A.length * 19 := by
  induction A with
  | nil => rfl
  | cons e A ih => simp [flat, ih, enc_length]; omega

theorem flat_get (A : List Ent) : ∀ (i : Nat) (e : Ent), A[i]? = some e → ∀ j v, (enc e)[j]? = some v → (flat A)[i * 19 + j]? = some v := by
  induction A with
  | nil => intro i e h; simp at h
  | cons a A ih =>
    intro i e h j v hv
    have hj : j < 19 := by have := (List.getElem?_eq_some_iff.1 hv).1; rw [enc_length] at this; exact this
    cases i with
    | zero => simp at h; subst h; rw [flat, List.getElem?_append_left (by rw [enc_length]; omega)]; simpa using hv
    | succ i =>
      rw [flat, List.getElem?_append_right (by rw [enc_length]; omega), enc_length, show (i + 1) * 19 + j - 19 = i * 19 + j by omega]
      exact ih i e (by simpa using h) j v hv

theorem flat_append (A B : List Ent) : flat (A ++ B) = flat A ++ flat B := by
  induction A with
  | nil => rfl
  | cons a A ih => simp [flat, ih]

theorem flat_take (A : List Ent) : ∀ n : Nat, (flat A).take (n * 19) = flat (A.take n) := by
  induction A with
  | nil => intro n; simp [flat]
  | cons a A ih =>
    intro n
    cases n with
    | zero => simp [flat]
    | succ n => rw [List.take_succ_cons, flat, flat, List.take_append, enc_length, show (n + 1) * 19 - 19 = n * 19 by omega, ih, List.take_of_length_le (by rw [enc_length]; omega)]

def setL : List Value → Nat → List Value → List Value
  | xs, _, [] => xs
  | xs, o, v :: r => setL (xs.set o v) (o + 1) r

theorem setL_right (ys : List Value) : ∀ (vs xs : List Value) (o : Nat), setL (ys ++ xs) (ys.length + o) vs = ys ++ setL xs o vs := by
  intro vs
  induction vs with
  | nil => intro xs o; rfl
  | cons v r ih =>
    intro xs o
    rw [setL, setL, List.set_append_right (ys.length + o) v (by omega), show ys.length + o - ys.length = o by omega, Nat.add_assoc, ih]

theorem setL_left : ∀ (vs us xs : List Value), us.length = vs.length → setL (us ++ xs) 0 vs = vs ++ xs := by
  intro vs
  induction vs with
  | nil => intro us xs h; cases us with
    | nil => rfl
    | cons _ _ => simp at h
  | cons v r ih =>
    intro us xs h
    cases us with
    | nil => simp at h
    | cons u us =>
      have := setL_right [v] r (us ++ xs) 0
      simp only [List.length_singleton, Nat.add_zero, List.singleton_append] at this
      simp only [setL, List.cons_append, List.set_cons_zero, Nat.zero_add]
      rw [this, ih us xs (by simpa using h)]

theorem flat_set (A : List Ent) : ∀ (i : Nat) (e : Ent), i < A.length → setL (flat A) (i * 19) (enc e) = flat (A.set i e) := by
  induction A with
  | nil => intro i e h; simp at h
  | cons a A ih =>
    intro i e h
    cases i with
    | zero => rw [Nat.zero_mul, flat, List.set_cons_zero, flat, setL_left _ _ _ (by rw [enc_length, enc_length])]
    | succ i =>
      have := setL_right (enc a) (enc e) (flat A) (i * 19)
      rw [enc_length] at this
      rw [List.set_cons_succ, flat, flat, show (i + 1) * 19 = 19 + i * 19 by omega, this, ih i e (by simpa using h)]

theorem heap_setCells_other (g : Nat) : ∀ (vs : List Value) (o : Nat) (w : World) {k : Nat}, k ≠ g → (w.setCells g o vs).heap[k]? = w.heap[k]? := by
  intro vs
  induction vs with
  | nil => intro o w k h; rfl
  | cons v r ih => intro o w k h; rw [World.setCells, ih _ _ h]; exact heap_setCell_other _ _ _ _ h

theorem fr_cells {S : Nat → Prop} {g : Nat} (hg : S g) : ∀ (vs : List Value) (o : Nat) (w : World), Fr S w (w.setCells g o vs) := by
  intro vs
  induction vs with
  | nil => intro o w; exact Fr.refl _ _
  | cons v r ih => intro o w; exact (Fr.setCell S w ⟨g, o, none⟩ v hg).trans (ih _ _)

theorem ownsRow_cells {en : TypeId} {g n cap : Nat} : ∀ (vs : List Value) (o : Nat) (w : World) (xs : List Value), w.ownsRow 0 en 19 (.slice (some ⟨g, 0, none⟩) n cap) n xs → (w.setCells g o vs).ownsRow 0 en 19 (.slice (some ⟨g, 0, none⟩) n cap) n (setL xs o vs) := by
  intro vs
  induction vs with
  | nil => intro o w xs h; exact h
  | cons v r ih => intro o w xs h; exact ih _ _ _ (h.stored o v).1

theorem ownsMap_cells {P : Program} {k : TypeId} {R : Value → Option (DataW Unit × List MemPlace)} {b n g : Nat} {D : DataW Unit} (hg : b ≠ g) : ∀ (vs : List Value) (o : Nat) (w : World), w.ownsMap P k R b n D → (w.setCells g o vs).ownsMap P k R b n D := by
  intro vs
  induction vs with
  | nil => intro o w h; exact h
  | cons v r ih => intro o w h; exact ih _ _ (h.setCell (a := ⟨g, o, none⟩) hg v)

structure Raw (st en : TypeId) (w : World) (hb mb : Nat) (sv : Value) (A : List Ent) (last : Int) (n : Nat) (D : DataW Unit) : Prop where
  hdr : w.heap[hb]? = some (.cells #[sv, .map (some mb), .int .i64 last] st (0, 0))
  row : w.ownsRow 0 en 19 sv A.length (flat A)
  map : w.ownsMap Try.prog 3 (plainElem Try.prog 3) mb n D
  apart : sv.ownBlock ≠ some hb

section
variable {st en : TypeId} {w w' : World} {hb mb n : Nat} {sv : Value} {A : List Ent} {last : Int} {D : DataW Unit}

theorem Raw.lt (h : Raw st en w hb mb sv A last n D) : hb < w.heap.size := (Array.getElem?_eq_some_iff.1 h.hdr).1
theorem Raw.mlt (h : Raw st en w hb mb sv A last n D) : mb < w.heap.size := h.map.lt
theorem Raw.rlt (h : Raw st en w hb mb sv A last n D) {k : Nat} (hk : sv.ownBlock = some k) : k < w.heap.size := (h.row.lt k hk).2
theorem Raw.mne (h : Raw st en w hb mb sv A last n D) : mb ≠ hb := by
  intro e
  obtain ⟨es, clock, hm, _⟩ := h.map
  rw [e, h.hdr] at hm
  cases hm
theorem Raw.rne (h : Raw st en w hb mb sv A last n D) : sv.ownBlock ≠ some mb := by
  intro e
  obtain ⟨es, clock, hm, _⟩ := h.map
  rcases h.row.2 with ⟨hv, _⟩ | ⟨g, cap, cur, hv, _, hg, _⟩
  · rw [hv] at e; cases e
  · rw [hv] at e
    simp [Value.ownBlock] at e
    rw [e, hm] at hg
    cases hg
theorem Raw.own_lt (h : Raw st en w hb mb sv A last n D) {k : Nat} (hk : Own hb mb sv k) : k < w.heap.size := by
  rcases hk with rfl | rfl | hk
  · exact h.lt
  · exact h.mlt
  · exact h.rlt hk

theorem row_keep {xs : List Value} {m : Nat} (h : w.ownsRow 0 en 19 sv m xs) (hw : ∀ k, sv.ownBlock = some k → w'.heap[k]? = w.heap[k]?) : w'.ownsRow 0 en 19 sv m xs := by
  refine ⟨h.1, ?_⟩
  rcases h.2 with h1 | ⟨g, cap, cur, hv, hb', hg, hr⟩
  · exact .inl h1
  · exact .inr ⟨g, cap, cur, hv, hb', (hw g (by rw [hv]; rfl)).trans hg, hr⟩

/-- A heap that a call does not touch stays what it is. -/
theorem Raw.keep (h : Raw st en w hb mb sv A last n D) (hw : ∀ k, Own hb mb sv k → w'.heap[k]? = w.heap[k]?) : Raw st en w' hb mb sv A last n D := by
  obtain ⟨es, clock, hm, hF⟩ := h.map
  exact ⟨(hw hb (.inl rfl)).trans h.hdr, row_keep h.row (fun k hk => hw k (.inr (.inr hk))), ⟨es, clock, (hw mb (.inr (.inl rfl))).trans hm, hF⟩, h.apart⟩

theorem Raw.fr {S : Nat → Prop} (h : Raw st en w hb mb sv A last n D) (hf : Fr S w w') (hS : ∀ k, Own hb mb sv k → ¬ S k) : Raw st en w' hb mb sv A last n D :=
  h.keep fun k hk => hf.block k (h.own_lt hk) (hS k hk)

theorem Raw.drew (h : Raw st en w hb mb sv A last n D) : Raw st en w.drew hb mb sv A last n D := h.keep fun _ _ => rfl
theorem Raw.alloc (h : Raw st en w hb mb sv A last n D) (o : Obj) : Raw st en (w.alloc o) hb mb sv A last n D := h.fr (Fr.alloc No w o) fun _ _ h => h

theorem Raw.form (h : Raw st en w hb mb sv A last n D) (hn : 0 < A.length) : ∃ g cap, sv = .slice (some ⟨g, 0, none⟩) A.length cap := by
  obtain ⟨g, cap, hv, _⟩ := h.row.form hn
  exact ⟨g, cap, hv⟩

theorem Raw.hcell (h : Raw st en w hb mb sv A last n D) : w.cell? ⟨hb, 0, none⟩ = some sv ∧ w.cell? ⟨hb, 1, none⟩ = some (.map (some mb)) ∧ w.cell? ⟨hb, 2, none⟩ = some (.int .i64 last) := by
  refine ⟨?_, ?_, ?_⟩ <;> rw [cell_of_row w hb _ _ _ _ h.hdr] <;> rfl

theorem Raw.hfrozen (h : Raw st en w hb mb sv A last n D) (j : Nat) : w.frozen? ⟨hb, j, none⟩ = false := frozen_of_row w hb j _ _ h.hdr

theorem Raw.ecells {g m cap : Nat} (h : Raw st en w hb mb (.slice (some ⟨g, 0, none⟩) m cap) A last n D) {i : Nat} {e : Ent} (hi : A[i]? = some e) : ∀ j v, (enc e)[j]? = some v → w.cell? ⟨g, i * 19 + j, none⟩ = some v := by
  intro j v hv
  have hj : j < 19 := by have := (List.getElem?_eq_some_iff.1 hv).1; rw [enc_length] at this; exact this
  have hil : i < A.length := (List.getElem?_eq_some_iff.1 hi).1
  obtain ⟨g', cap', hf⟩ := h.form (by omega)
  cases hf
  rw [h.row.cellAt _ (by omega)]
  exact flat_get A i e hi j v hv

theorem Raw.ecell {g m cap : Nat} (h : Raw st en w hb mb (.slice (some ⟨g, 0, none⟩) m cap) A last n D) {i : Nat} {e : Ent} (hi : A[i]? = some e) :
    w.cell? ⟨g, i * 19, none⟩ = some (.int .u64 e.due) ∧ w.cell? ⟨g, i * 19 + 1, none⟩ = some (.int .i64 e.id) := ⟨h.ecells hi 0 _ rfl, h.ecells hi 1 _ rfl⟩

theorem Raw.efrozen {g m cap : Nat} (h : Raw st en w hb mb (.slice (some ⟨g, 0, none⟩) m cap) A last n D) (hn : A.length = m) (j : Nat) : w.frozen? ⟨g, j, none⟩ = false := by
  subst hn
  exact h.row.frozenAt j

/-- A whole entry is read. -/
theorem Raw.load {g m cap : Nat} (h : Raw st en w hb mb (.slice (some ⟨g, 0, none⟩) m cap) A last n D) {i : Nat} {e : Ent} (hi : A[i]? = some e) (P : Program) : Sem.run P (loadCellsFrom ⟨g, i * 19, none⟩ 0 19 #[]) w = .ok (enc e).toArray w :=
  run_loadCellsFrom_list P w _ (enc e) 19 (enc_length e) fun j v hv => by rw [Addr.add_lit]; exact h.ecells hi j v hv

/-- A whole entry is written. -/
theorem Raw.store {g m cap : Nat} (h : Raw st en w hb mb (.slice (some ⟨g, 0, none⟩) m cap) A last n D) (hm : A.length = m) {i : Nat} (hi : i < m) (P : Program) (vs : List Value) (hl : vs.length = 19) (h1 : ∀ u ∈ vs, u.oneCell' = true) :
    Sem.run P (storeCells ⟨g, i * 19, none⟩ vs 0) w = .ok () (w.setCells g (i * 19) vs) := by
  subst hm
  have := run_storeCells_cells (P := P) g (i * 19) vs 0 w (fun j hj => by
    rw [Nat.add_zero]
    rw [h.ecells (List.getElem?_eq_getElem hi) j _ (List.getElem?_eq_getElem (by rw [enc_length]; omega))]; rfl) (fun j hj => by rw [Nat.add_zero]; exact h.efrozen rfl _) h1
  rwa [Nat.add_zero] at this

/-- One entry is written. -/
theorem Raw.put {g m cap : Nat} (h : Raw st en w hb mb (.slice (some ⟨g, 0, none⟩) m cap) A last n D) (hm : A.length = m) (i : Nat) (hi : i < m) (e : Ent) :
    Raw st en (w.setCells g (i * 19) (enc e)) hb mb (.slice (some ⟨g, 0, none⟩) m cap) (A.set i e) last n D := by
  have hg : g ≠ hb := fun e => h.apart (by simp [Value.ownBlock, e])
  have hg' : g ≠ mb := fun e => h.rne (by simp [Value.ownBlock, e])
  subst hm
  refine ⟨(heap_setCells_other g _ _ _ hg.symm).trans h.hdr, ?_, ownsMap_cells hg'.symm _ _ _ h.map, h.apart⟩
  rw [List.length_set, ← flat_set A i e hi]
  exact ownsRow_cells _ _ _ _ h.row

/-- The map is written. -/
theorem Raw.turn {n' : Nat} {D' : DataW Unit} (h : Raw st en w hb mb sv A last n D) (hm : w'.ownsMap Try.prog 3 (plainElem Try.prog 3) mb n' D') (ht : w.mapTurned w' mb) : Raw st en w' hb mb sv A last n' D' := by
  have hg := ht.grown
  refine ⟨(hg.block hb h.lt (by simp; exact h.mne.symm)).trans h.hdr, ?_, hm, h.apart⟩
  exact row_keep h.row fun k hk => hg.block k (h.rlt hk) (fun e => h.rne (by rw [hk, e]))

end

structure HeapAt (V : Value → Prop) (st en : TypeId) (w : World) (hb mb : Nat) (sv : Value) (A : List Ent) (last : Int) : Prop where
  raw : ∃ D, Raw st en w hb mb sv A last A.length D ∧ Tied D A
  good : Sound V A last

section
variable {V : Value → Prop} {st en : TypeId} {w w' : World} {hb mb : Nat} {sv : Value} {A : List Ent} {last : Int}

theorem HeapAt.keep (h : HeapAt V st en w hb mb sv A last) (hw : ∀ k, Own hb mb sv k → w'.heap[k]? = w.heap[k]?) : HeapAt V st en w' hb mb sv A last := by
  obtain ⟨⟨D, hr, ht⟩, hg⟩ := h
  exact ⟨⟨D, hr.keep hw, ht⟩, hg⟩
theorem HeapAt.own_lt (h : HeapAt V st en w hb mb sv A last) {k : Nat} (hk : Own hb mb sv k) : k < w.heap.size := by
  obtain ⟨⟨D, hr, ht⟩, hg⟩ := h
  exact hr.own_lt hk
theorem HeapAt.fr {S : Nat → Prop} (h : HeapAt V st en w hb mb sv A last) (hf : Fr S w w') (hS : ∀ k, Own hb mb sv k → ¬ S k) : HeapAt V st en w' hb mb sv A last :=
  h.keep fun k hk => hf.block k (h.own_lt hk) (hS k hk)
theorem HeapAt.frNo (h : HeapAt V st en w hb mb sv A last) (hf : Fr No w w') : HeapAt V st en w' hb mb sv A last := h.fr hf fun _ _ h => h
theorem HeapAt.form (h : HeapAt V st en w hb mb sv A last) (hn : 0 < A.length) : ∃ g cap, sv = .slice (some ⟨g, 0, none⟩) A.length cap := by
  obtain ⟨⟨D, hr, ht⟩, hg⟩ := h
  exact hr.form hn
end

section
variable {st en : TypeId} {w w' : World} {hb mb n : Nat} {sv : Value} {A : List Ent} {last : Int} {D : DataW Unit}

theorem Raw.setLast (h : Raw st en w hb mb sv A last n D) (l : Int) : Raw st en (w.setCell ⟨hb, 2, none⟩ (.int .i64 l)) hb mb sv A l n D := by
  refine ⟨heap_set2 h.hdr _, ?_, h.map.setCell (a := ⟨hb, 2, none⟩) h.mne _, h.apart⟩
  exact row_keep h.row fun k hk => heap_setCell_other _ _ _ _ (fun e => h.apart (by rw [hk]; simp [e]))

theorem Raw.cut {g m cap : Nat} (h : Raw st en w hb mb (.slice (some ⟨g, 0, none⟩) m cap) A last n D) (hm : A.length = m) (k : Nat) (hk : k ≤ m) :
    Raw st en (w.setCell ⟨hb, 0, none⟩ (.slice (some ⟨g, 0, none⟩) k cap)) hb mb (.slice (some ⟨g, 0, none⟩) k cap) (A.take k) last n D := by
  have hg : g ≠ hb := fun e => h.apart (by simp [Value.ownBlock, e])
  subst hm
  refine ⟨heap_set0 h.hdr _, ?_, h.map.setCell (a := ⟨hb, 0, none⟩) h.mne _, h.apart⟩
  have hl : (A.take k).length = k := by simp; omega
  rw [hl]
  refine ⟨by rw [flat_length, hl], .inr ?_⟩
  rcases h.row.2 with ⟨h', _⟩ | ⟨g', cap', cur, h', hb', hgg, hnc, hcm, hcs, htake⟩
  · cases h'
  · cases h'
    refine ⟨g, cap, cur, rfl, hb', (heap_setCell_other _ _ _ _ hg).trans hgg, by omega, hcm, hcs, ?_⟩
    rw [← flat_take, ← htake, List.take_take]
    congr 1
    omega

theorem Raw.append {g cap : Nat} (h : Raw st en w hb mb sv A last n D) (e : Ent) (hg : w.grownBy w' sv.ownBlock) (hown : w'.ownsRow 0 en 19 (.slice (some ⟨g, 0, none⟩) (A.length + 1) cap) (A.length + 1) (flat A ++ enc e))
    (hat : sv.ownBlock = some g ∨ w.heap.size ≤ g) : Raw st en (w'.setCell ⟨hb, 0, none⟩ (.slice (some ⟨g, 0, none⟩) (A.length + 1) cap)) hb mb (.slice (some ⟨g, 0, none⟩) (A.length + 1) cap) (A ++ [e]) last n D := by
  have hgb : g ≠ hb := by
    intro e
    rcases hat with h1 | h1
    · exact h.apart (by rw [h1, e])
    · have := h.lt; omega
  refine ⟨heap_set0 ((hg.block hb h.lt (fun e => h.apart e.symm)).trans h.hdr) _, ?_, (h.map.kept hg (fun e => h.rne e.symm)).setCell (a := ⟨hb, 0, none⟩) h.mne _, by simp [Value.ownBlock, hgb]⟩
  rw [List.length_append, flat_append]
  rw [show flat [e] = enc e by simp [flat]]
  refine row_keep hown fun k hk => heap_setCell_other _ _ _ _ (fun e => ?_)
  simp [Value.ownBlock] at hk
  exact hgb (hk.trans e)
end


theorem swap_raw {st en : TypeId} {w : World} {hb mb g n m cap : Nat} {A : List Ent} {last : Int} {D : DataW Unit} {i j : Nat} {ei ej : Ent} (h : Raw st en w hb mb (.slice (some ⟨g, 0, none⟩) n cap) A last m D) (hn : A.length = n) (hi : A[i]? = some ei) (hj : A[j]? = some ej) :
    Raw st en ((w.setCells g (i * 19) (enc ej)).setCells g (j * 19) (enc ei)) hb mb (.slice (some ⟨g, 0, none⟩) n cap) (swp A i j ei ej) last m D := by
  have hil : i < A.length := (List.getElem?_eq_some_iff.1 hi).1
  have hjl : j < A.length := (List.getElem?_eq_some_iff.1 hj).1
  exact (h.put hn i (by omega) ej).put (by simpa using hn) j (by omega) ei

theorem swap_fr (w : World) (hb mb g n cap i j : Nat) (us vs : List Value) : Fr (Own hb mb (.slice (some ⟨g, 0, none⟩) n cap)) w ((w.setCells g i us).setCells g j vs) :=
  (fr_cells (.inr (.inr rfl)) _ _ _).trans (fr_cells (.inr (.inr rfl)) _ _ _)

theorem cut_heap {V : Value → Prop} {st en : TypeId} {w : World} {hb mb g m cap i N : Nat} {A : List Ent} {last : Int} {ei el : Ent} {D : DataW Unit} (Z : Ent)
    (hR : Raw st en w hb mb (.slice (some ⟨g, 0, none⟩) (m + 1) cap) (swp A i m ei el) last N (D.del (key ei.id))) (ht : Tied D (swp A i m ei el)) (hg : Sound V (swp A i m ei el) last) (hi : A[i]? = some ei) (hl : A[m]? = some el) (hm : A.length = m + 1) :
    HeapAt V st en ((w.setCells g (m * 19) (enc Z)).setCell ⟨hb, 0, none⟩ (.slice (some ⟨g, 0, none⟩) m cap)) hb mb (.slice (some ⟨g, 0, none⟩) m cap) ((swp A i m ei el).take m) last := by
  have hB : (swp A i m ei el).length = m + 1 := by rw [swp_length]; exact hm
  have h1 := hR.put hB m (by omega) Z
  have h2 := h1.cut (by rw [List.length_set]; exact hB) m (by omega)
  rw [set_take] at h2
  have ht' := ht
  rw [cut_eq hi hl hm] at ht'
  have ht2 := ht'.drop
  refine ⟨⟨_, { h2 with map := ownsMap_tight h2.map ht2.size }, ht2⟩, hg.sub (fun k e hk => ⟨k, (take_get hk).2⟩) (by simp; omega)⟩

theorem cut_fr {w w' : World} {hb mb g n cap : Nat} {o : Nat} {vs : List Value} {v : Value} (h : Fr (Own hb mb (.slice (some ⟨g, 0, none⟩) n cap)) w w') :
    Fr (Own hb mb (.slice (some ⟨g, 0, none⟩) n cap)) w ((w'.setCells g o vs).setCell ⟨hb, 0, none⟩ v) :=
  (h.trans (fr_cells (.inr (.inr rfl)) _ _ _)).trans (Fr.hdr 0 v)

abbrev HA := HeapAt V 97 102

end Go.Proofs.Ytbobokhlcbojkaa.A
