/-
  What a frame of a call leaves alone; rows of values in memory; the program under a name of its own; no walk.
  Conditions: as each theorem says.
-/
import Derived.Test.YtfpaihohhedhfaaRows
import Derived.WalkKit
import Derived.ProofKit
import Derived.OpenShut
import Derived.Below
import Derived.Lib.Hide
import Derived.StillTailTactics
import Derived.Sort.Grow
import Derived.Deep.Draws
import Derived.Deep.AppendLies
import Derived.Deep.LoopGhost
import Derived.BigQuiet
import Derived.Laws.CopyOwn
import Derived.Laws.AppendOwnNone
import Derived.Lib.SliceRun
import Derived.Lib.AppendZeros
import Derived.ChangeArms
import Derived.WideShapes
import Derived.Deep.RegionHeld3
import Derived.Laws.StructEq
import Derived.Stop.BytesEq
import Derived.Laws.IdiomCopy
import Derived.Shelf.SlicesQ.Load
namespace Go.Proofs.Ytfpaihohhedhfaa
open Go.ChangeShapes Go.WideShapes Go.ChangeAt Go.RowKit
set_option linter.unusedVariables false

theorem ret_int {k : IntKind} {a b : Int} (h : a = b) : Ending.returned (.int k a) = .returned (.int k b) := by rw [h]

theorem region_tail {P : Program} {id : Nat} {Q : Exit → Act → World → Prop} {a : Act} {w : World} {l : List Oper} (n : Nat) (hm : P.follows .mixedOrders = true) (hB : Region.lexTailB .any l.toArray n = true)
    (h : ∀ y, y = w.drew → wpStill P l.toArray y (fun a' => wpList P l.toArray Q (l.drop n) a' y) (l.take n) a) : (Code.region id l.toArray true).wp P Q a w := wp_region_still_tail n hm hB (h _ rfl)

/-! ### frames -/

structure Fr (S : Nat → Prop) (w w' : World) : Prop where
  os : w'.os = w.os
  tape : w'.tape = w.tape
  output : w'.output = w.output
  size : w.heap.size ≤ w'.heap.size
  block : ∀ k, k < w.heap.size → ¬ S k → w'.heap[k]? = w.heap[k]?

def No : Nat → Prop := fun _ => False

theorem Fr.refl (S : Nat → Prop) (w : World) : Fr S w w := ⟨rfl, rfl, rfl, Nat.le_refl _, fun _ _ _ => rfl⟩
theorem Fr.trans {S : Nat → Prop} {a b c : World} (h : Fr S a b) (k : Fr S b c) : Fr S a c :=
  ⟨k.os.trans h.os, k.tape.trans h.tape, k.output.trans h.output, Nat.le_trans h.size k.size, fun i hi hs => (k.block i (Nat.lt_of_lt_of_le hi h.size) hs).trans (h.block i hi hs)⟩
theorem Fr.mono {S T : Nat → Prop} {a b : World} (h : Fr S a b) (hST : ∀ k, k < a.heap.size → S k → T k) : Fr T a b :=
  ⟨h.os, h.tape, h.output, h.size, fun k hk ht => h.block k hk (fun hs => ht (hST k hk hs))⟩
theorem Fr.no {S : Nat → Prop} {a b : World} (h : Fr No a b) : Fr S a b := h.mono fun _ _ h => h.elim
theorem Fr.drew (S : Nat → Prop) (w : World) : Fr S w w.drew := ⟨rfl, rfl, rfl, Nat.le_refl _, fun _ _ _ => rfl⟩
theorem Fr.drewN (S : Nat → Prop) (w : World) (q : Nat) : Fr S w (w.drewN q) := ⟨rfl, rfl, rfl, Nat.le_refl _, fun _ _ _ => rfl⟩
theorem Fr.alloc (S : Nat → Prop) (w : World) (o : Obj) : Fr S w (w.alloc o) := ⟨rfl, rfl, rfl, by simp, fun k hk _ => Below.heap_alloc _ _ _ hk⟩
theorem Fr.setCell (S : Nat → Prop) (w : World) (a : Addr) (u : Value) (h : S a.block) : Fr S w (w.setCell a u) :=
  ⟨rfl, rfl, rfl, by simp [World.setCell], fun k hk hs => Below.heap_setCell _ _ _ _ (fun e => hs (e ▸ h))⟩
theorem Fr.setRow (S : Nat → Prop) (w : World) (g : Nat) (cs : Array Value) (h : S g) : Fr S w (w.setRow g cs) :=
  ⟨rfl, rfl, rfl, by simp [World.setRow], fun k hk hs => setRow_other w g k cs (fun e => hs (e ▸ h))⟩
theorem Fr.grown {S : Nat → Prop} {w w' : World} {row : Option Nat} (hg : w.grownBy w' row) (h : ∀ k, row = some k → S k) : Fr S w w' :=
  ⟨hg.os, hg.tape, hg.output, hg.size, fun k hk hs => hg.block k hk (fun e => hs (h k e.symm))⟩
theorem Fr.below {S : Nat → Prop} {B : Nat} {w w' : World} (h : Fr S w w') (hS : ∀ k, S k → B ≤ k) (hB : B ≤ w.heap.size) : Below B w w' :=
  ⟨h.os, h.tape, h.output, h.size, fun k hk => h.block k (by omega) (fun hs => by have := hS k hs; omega)⟩
theorem Fr.belowNo {w w' : World} (h : Fr No w w') : Below w.heap.size w w' := h.below (fun _ h => h.elim) (Nat.le_refl _)
theorem Fr.ofBelow {w w' : World} (h : Below w.heap.size w w') : Fr No w w' := ⟨h.os, h.tape, h.output, h.size, fun k hk _ => h.block k hk⟩
theorem Fr.ofNew {S T : Nat → Prop} {a b c : World} (h : Fr S a b) (k : Fr T b c) (hT : ∀ k, T k → S k ∨ a.heap.size ≤ k) : Fr S a c :=
  ⟨k.os.trans h.os, k.tape.trans h.tape, k.output.trans h.output, Nat.le_trans h.size k.size, fun i hi hs => (k.block i (Nat.lt_of_lt_of_le hi h.size) (fun ht => by rcases hT i ht with h1 | h1; exact hs h1; omega)).trans (h.block i hi hs)⟩
theorem fr_base {w w' : World} (h : Fr (fun k => w.heap.size ≤ k) w w') : Fr No w w' :=
  ⟨h.os, h.tape, h.output, h.size, fun k hk _ => h.block k hk (by omega)⟩
theorem Fr.keep {w w' : World} (h : Fr No w w') {k : Nat} {o : Obj} (hk : w.heap[k]? = some o) : w'.heap[k]? = some o :=
  (h.block k (Array.getElem?_eq_some_iff.1 hk).1 (fun h => h)).trans hk
theorem Fr.cell {w w' : World} (h : Fr No w w') {a : Addr} {v : Value} (hc : w.cell? a = some v) : w'.cell? a = some v :=
  (World.cell?_of_block (h.block _ (World.block_lt_of_cell? w _ hc) (fun h => h))).trans hc

theorem info_parts {P : Program} {e : TypeId} {z : Option Value} {s b : Nat} (h : (P.info? e).map (fun i => (i.zero, i.size, i.bytes)) = some (z, s, b)) : ∃ i, P.info? e = some i ∧ i.zero = z ∧ i.size = s ∧ i.bytes = b := by
  cases hi : P.info? e with
  | none => rw [hi] at h; cases h
  | some i => rw [hi] at h; simp at h; exact ⟨i, rfl, h.1, h.2.1, h.2.2⟩

/-! ### rows -/

/-- Numbers as cells. -/
def nums (k : IntKind) (xs : List Nat) : List Value := xs.map fun (x : Nat) => Value.int k (x : Int)
/-- Strings as cells. -/
def strs (xs : List ByteArray) : List Value := xs.map Value.string

theorem nums_one (k : IntKind) (xs : List Nat) : ∀ u ∈ nums k xs, u.oneCell' = true := by
  intro u hu
  obtain ⟨n, _, rfl⟩ := List.mem_map.1 hu
  rfl
theorem strs_one (xs : List ByteArray) : ∀ u ∈ strs xs, u.oneCell' = true := by
  intro u hu
  obtain ⟨n, _, rfl⟩ := List.mem_map.1 hu
  rfl
theorem nums_length (k : IntKind) (xs : List Nat) : (nums k xs).length = xs.length := by simp [nums]
theorem strs_length (xs : List ByteArray) : (strs xs).length = xs.length := by simp [strs]
theorem nums_append (k : IntKind) (xs ys : List Nat) : nums k (xs ++ ys) = nums k xs ++ nums k ys := by simp [nums]
theorem strs_append (xs ys : List ByteArray) : strs (xs ++ ys) = strs xs ++ strs ys := by simp [strs]
theorem nums_get {k : IntKind} {xs : List Nat} {i x : Nat} (h : xs[i]? = some x) : (nums k xs)[i]? = some (.int k x) := by simp [nums, h]
theorem strs_get {xs : List ByteArray} {i : Nat} {x : ByteArray} (h : xs[i]? = some x) : (strs xs)[i]? = some (.string x) := by simp [strs, h]

/-- A slice whose elements are these cells, wherever it lies. -/
def At (w : World) (a : Option Addr) (vs : List Value) : Prop := ∀ (i : Nat) (v : Value), vs[i]? = some v → ∃ b off, a = some ⟨b, off, none⟩ ∧ w.cell? ⟨b, off + i, none⟩ = some v

theorem At.keep {w w' : World} {a : Option Addr} {xs : List Value} (h : At w a xs) (hk : ∀ ad, a = some ad → ad.block < w.heap.size → w'.heap[ad.block]? = w.heap[ad.block]?) : At w' a xs := by
  intro i x hx
  obtain ⟨b, off, rfl, hc⟩ := h i x hx
  have hb : b < w.heap.size := World.block_lt_of_cell? w _ hc
  exact ⟨b, off, rfl, (World.cell?_of_block (a := ⟨b, off + i, none⟩) (hk ⟨b, off, none⟩ rfl hb)).trans hc⟩
theorem At.fr {S : Nat → Prop} {w w' : World} {a : Option Addr} {xs : List Value} (h : At w a xs) (hf : Fr S w w') (hS : ∀ ad, a = some ad → ¬ S ad.block) : At w' a xs :=
  h.keep fun ad ha hb => hf.block _ hb (hS ad ha)
theorem At.frNo {w w' : World} {a : Option Addr} {xs : List Value} (h : At w a xs) (hf : Fr No w w') : At w' a xs := h.fr hf fun _ _ h => h
theorem At.nil (w : World) (a : Option Addr) : At w a [] := fun i x hx => by simp at hx
theorem At.take {w : World} {a : Option Addr} {xs : List Value} (h : At w a xs) (k : Nat) : At w a (xs.take k) := by
  intro i x hx
  rw [List.getElem?_take] at hx
  split at hx
  · exact h i x hx
  · cases hx
theorem At.drop {w : World} {b off : Nat} {xs : List Value} (h : At w (some ⟨b, off, none⟩) xs) (k : Nat) : At w (some ⟨b, off + k, none⟩) (xs.drop k) := by
  intro i x hx
  rw [List.getElem?_drop] at hx
  obtain ⟨b', off', he, hc⟩ := h (k + i) x hx
  cases he
  exact ⟨b, off + k, rfl, by rw [Nat.add_assoc]; exact hc⟩
theorem At.lt {w : World} {ad : Addr} {xs : List Value} (h : At w (some ad) xs) (hn : 0 < xs.length) : ad.block < w.heap.size := by
  obtain ⟨b, off, he, hc⟩ := h 0 xs[0] (List.getElem?_eq_getElem hn)
  cases he
  exact World.block_lt_of_cell? w _ hc
theorem At.block {w : World} {g : Nat} {xs : List Value} {t : TypeId} {fr : Nat × Nat} (h : w.heap[g]? = some (.cells xs.toArray t fr)) : At w (some ⟨g, 0, none⟩) xs := by
  intro i x hx
  refine ⟨g, 0, rfl, ?_⟩
  rw [Nat.zero_add, cell_of_row w g i _ _ _ h]
  simpa using hx
theorem At.own {w : World} {base n cap e : Nat} {a : Option Addr} {xs : List Value} (h : w.ownsRow base e 1 (.slice a n cap) n xs) : At w a xs := by
  intro i x hx
  have hl := h.1
  have hi : i < xs.length := (List.getElem?_eq_some_iff.1 hx).1
  obtain ⟨g, cap', hv, _⟩ := h.form (by omega)
  cases hv
  refine ⟨g, 0, rfl, ?_⟩
  rw [Nat.zero_add, h.cellAt i (by omega)]
  exact hx
theorem At.src {w : World} {ad : Addr} {xs : List Value} (h : At w (some ad) xs) : ∀ (j : Nat) (u : Value), xs[j]? = some u → w.cell? (ad.add j) = some u := by
  intro j u hj
  obtain ⟨b, off, he, hc⟩ := h j u hj
  cases he
  rw [Go.WideShapes.add_plain]
  exact hc

theorem row_keep {w w' : World} {e : TypeId} {K : Nat} {sv : Value} {xs : List Value} {m : Nat} {base : Nat} (h : w.ownsRow base e K sv m xs) (hw : ∀ k, sv.ownBlock = some k → w'.heap[k]? = w.heap[k]?) : w'.ownsRow base e K sv m xs := by
  refine ⟨h.1, ?_⟩
  rcases h.2 with h1 | ⟨g, cap, cur, hv, hb', hg, hr⟩
  · exact .inl h1
  · exact .inr ⟨g, cap, cur, hv, hb', (hw g (by rw [hv]; rfl)).trans hg, hr⟩
theorem row_frNo {w w' : World} {e : TypeId} {K : Nat} {sv : Value} {xs : List Value} {m : Nat} {base : Nat} (h : w.ownsRow base e K sv m xs) (hf : Fr No w w') : w'.ownsRow base e K sv m xs :=
  row_keep h fun k hk => hf.block k (h.lt k hk).2 (fun h => h)
theorem row_any {w : World} {e : TypeId} {K : Nat} {sv : Value} {xs : List Value} {m : Nat} {base : Nat} (h : w.ownsRow base e K sv m xs) : ∃ a cap, sv = .slice a m cap ∧ m ≤ cap ∧ (a = none → cap = 0) ∧ (∀ ad, a = some ad → base ≤ ad.block) := by
  rcases h.2 with ⟨hv, hn'⟩ | ⟨g, cap, cur, hv, hb, _, hm, _⟩
  · exact ⟨none, 0, by rw [hv, hn'], by omega, fun _ => rfl, fun ad h => by cases h⟩
  · exact ⟨_, cap, hv, hm, (fun h => by cases h), fun ad h => by cases h; exact hb⟩

theorem load_block {P : Program} {w : World} {B o n : Nat} {cs : Array Value} {t : TypeId} {fr : Nat × Nat} {xs : Array Value} (h : w.heap[B]? = some (.cells cs t fr)) (hn : xs.size = n) (hx : ∀ j v, xs[j]? = some v → cs[o + j]? = some v) :
    Sem.run P (loadCellsFrom ⟨B, o, none⟩ 0 n #[]) w = .ok xs w := by
  have := run_loadCellsFrom_list P w ⟨B, o, none⟩ xs.toList n (by simpa using hn) (fun j v hv => by
    rw [Addr.add_lit, cell_of_row w B (o + j) cs t fr h]
    exact hx j v (by simpa using hv))
  simpa using this

theorem load_all {P : Program} {w : World} {B n : Nat} {cs : List Value} {t : TypeId} {fr : Nat × Nat} (h : w.heap[B]? = some (.cells cs.toArray t fr)) (hn : cs.length = n) : Sem.run P (loadCellsFrom ⟨B, 0, none⟩ 0 n #[]) w = .ok cs.toArray w :=
  load_block h (by simpa using hn) (fun j v hv => by simpa using hv)

theorem store_all {P : Program} {w : World} {B : Nat} {cs : Array Value} {t : TypeId} (xs : List Value) (h : w.heap[B]? = some (.cells cs t (0, 0))) (hl : xs.length = cs.size) (h1 : ∀ u ∈ xs, u.oneCell' = true) :
    ∃ y, Sem.run P (storeCells ⟨B, 0, none⟩ xs 0) w = .ok () y ∧ y.heap[B]? = some (.cells xs.toArray t (0, 0)) ∧ Fr (fun k => k = B) w y := by
  have hst := run_storeCells_at P B 0 t xs 0 cs w h (by omega) h1
  refine ⟨_, hst, ?_, Fr.setRow _ _ _ _ rfl⟩
  have e : (cs.toList.take (0 + 0) ++ xs ++ cs.toList.drop (0 + 0 + xs.length)).toArray = xs.toArray := by
    rw [hl]; simp
  rw [setRow_heap w B _ _ _ _ h, e]

/-- Only draws. -/
theorem Fr.same {w w' : World} (h1 : w'.os = w.os) (h2 : w'.tape = w.tape) (h3 : w'.output = w.output) (h4 : w'.heap = w.heap) : Fr No w w' := ⟨h1, h2, h3, by rw [h4]; exact Nat.le_refl _, fun k _ _ => by rw [h4]⟩

/-- The program under a name of its own: the loaded program's rules do not reach it. -/
noncomputable def PD : Program := Try.prog

theorem at_prog {P : Program} (h : P = Try.prog) {f : Nat} {args : Array Value} {w : World} {R : Ending → World → Prop} (c : Calls Try.prog f args w R) : Calls P f args w R := by subst h; exact c

end Go.Proofs.Ytfpaihohhedhfaa
