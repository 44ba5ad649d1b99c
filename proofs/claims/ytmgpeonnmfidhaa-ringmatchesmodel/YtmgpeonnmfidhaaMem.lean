/-
  How a ring buffer of this package lies in memory, and what a frame of a call leaves alone; no walk.
  Conditions: as each theorem says.
-/
import Derived.Test.YtmgpeonnmfidhaaRows
import Derived.WalkKit
import Derived.ProofKit
import Derived.OpenShut
import Derived.Below
import Derived.Lib.Hide
import Derived.StillTailTactics
import Derived.Sort.Grow
import Derived.Deep.Draws
import Derived.Deep.AppendLies
import Derived.Deep.LoopGhost
import Derived.BigQuiet
import Derived.Laws.CopyOwn
import Derived.Laws.AppendOwnNone
import Derived.Lib.SliceRun
import Derived.Lib.AppendZeros
namespace Go.Proofs.Ytmgpeonnmfidhaa
open Go.ChangeShapes Go.WideShapes Go.ChangeAt Go.RowKit
set_option linter.unusedVariables false

theorem ret_int {k : IntKind} {a b : Int} (h : a = b) : Ending.returned (.int k a) = .returned (.int k b) := by rw [h]

theorem region_tail {P : Program} {id : Nat} {Q : Exit → Act → World → Prop} {a : Act} {w : World} {l : List Oper} (n : Nat) (hm : P.follows .mixedOrders = true) (hB : Region.lexTailB .any l.toArray n = true)
    (h : ∀ y, y = w.drew → wpStill P l.toArray y (fun a' => wpList P l.toArray Q (l.drop n) a' y) (l.take n) a) : (Code.region id l.toArray true).wp P Q a w := wp_region_still_tail n hm hB (h _ rfl)

/-! ### frames -/

structure Fr (S : Nat → Prop) (w w' : World) : Prop where
  os : w'.os = w.os
  tape : w'.tape = w.tape
  output : w'.output = w.output
  size : w.heap.size ≤ w'.heap.size
  block : ∀ k, k < w.heap.size → ¬ S k → w'.heap[k]? = w.heap[k]?

def No : Nat → Prop := fun _ => False

theorem Fr.refl (S : Nat → Prop) (w : World) : Fr S w w := ⟨rfl, rfl, rfl, Nat.le_refl _, fun _ _ _ => rfl⟩
theorem Fr.trans {S : Nat → Prop} {a b c : World} (h : Fr S a b) (k : Fr S b c) : Fr S a c :=
  ⟨k.os.trans h.os, k.tape.trans h.tape, k.output.trans h.output, Nat.le_trans h.size k.size, fun i hi hs => (k.block i (Nat.lt_of_lt_of_le hi h.size) hs).trans (h.block i hi hs)⟩
theorem Fr.mono {S T : Nat → Prop} {a b : World} (h : Fr S a b) (hST : ∀ k, k < a.heap.size → S k → T k) : Fr T a b :=
  ⟨h.os, h.tape, h.output, h.size, fun k hk ht => h.block k hk (fun hs => ht (hST k hk hs))⟩
theorem Fr.no {S : Nat → Prop} {a b : World} (h : Fr No a b) : Fr S a b := h.mono fun _ _ h => h.elim
theorem Fr.drew (S : Nat → Prop) (w : World) : Fr S w w.drew := ⟨rfl, rfl, rfl, Nat.le_refl _, fun _ _ _ => rfl⟩
theorem Fr.drewN (S : Nat → Prop) (w : World) (q : Nat) : Fr S w (w.drewN q) := ⟨rfl, rfl, rfl, Nat.le_refl _, fun _ _ _ => rfl⟩
theorem Fr.alloc (S : Nat → Prop) (w : World) (o : Obj) : Fr S w (w.alloc o) := ⟨rfl, rfl, rfl, by simp, fun k hk _ => Below.heap_alloc _ _ _ hk⟩
theorem Fr.setCell (S : Nat → Prop) (w : World) (a : Addr) (u : Value) (h : S a.block) : Fr S w (w.setCell a u) :=
  ⟨rfl, rfl, rfl, by simp [World.setCell], fun k hk hs => Below.heap_setCell _ _ _ _ (fun e => hs (e ▸ h))⟩
theorem Fr.setRow (S : Nat → Prop) (w : World) (g : Nat) (cs : Array Value) (h : S g) : Fr S w (w.setRow g cs) :=
  ⟨rfl, rfl, rfl, by simp [World.setRow], fun k hk hs => setRow_other w g k cs (fun e => hs (e ▸ h))⟩
theorem Fr.grown {S : Nat → Prop} {w w' : World} {row : Option Nat} (hg : w.grownBy w' row) (h : ∀ k, row = some k → S k) : Fr S w w' :=
  ⟨hg.os, hg.tape, hg.output, hg.size, fun k hk hs => hg.block k hk (fun e => hs (h k e.symm))⟩
theorem Fr.below {S : Nat → Prop} {B : Nat} {w w' : World} (h : Fr S w w') (hS : ∀ k, S k → B ≤ k) (hB : B ≤ w.heap.size) : Below B w w' :=
  ⟨h.os, h.tape, h.output, h.size, fun k hk => h.block k (by omega) (fun hs => by have := hS k hs; omega)⟩
theorem Fr.ofNew {S T : Nat → Prop} {a b c : World} (h : Fr S a b) (k : Fr T b c) (hT : ∀ k, T k → S k ∨ a.heap.size ≤ k) : Fr S a c :=
  ⟨k.os.trans h.os, k.tape.trans h.tape, k.output.trans h.output, Nat.le_trans h.size k.size, fun i hi hs => (k.block i (Nat.lt_of_lt_of_le hi h.size) (fun ht => by rcases hT i ht with h1 | h1; exact hs h1; omega)).trans (h.block i hi hs)⟩
theorem fr_base {w w' : World} (h : Fr (fun k => w.heap.size ≤ k) w w') : Fr No w w' :=
  ⟨h.os, h.tape, h.output, h.size, fun k hk _ => h.block k hk (by omega)⟩

theorem info_parts {P : Program} {e : TypeId} {z : Option Value} {s b : Nat} (h : (P.info? e).map (fun i => (i.zero, i.size, i.bytes)) = some (z, s, b)) : ∃ i, P.info? e = some i ∧ i.zero = z ∧ i.size = s ∧ i.bytes = b := by
  cases hi : P.info? e with
  | none => rw [hi] at h; cases h
  | some i => rw [hi] at h; simp at h; exact ⟨i, rfl, h.1, h.2.1, h.2.2⟩

theorem info3 : (Try.prog.info? 3).map (fun i => (i.zero, i.size, i.bytes)) = some (some (.int .i64 0), 1, 8) := by kernel_rfl
theorem size3 : (Try.prog.info? 3).map (·.size) = some 1 := by kernel_rfl

/-! ### rows of integers -/

def ints (xs : List Int) : List Value := xs.map (Value.int .i64)

theorem ints_one (xs : List Int) : ∀ u ∈ ints xs, u.oneCell' = true := by
  intro u hu
  obtain ⟨n, _, rfl⟩ := List.mem_map.1 hu
  rfl
theorem ints_length (xs : List Int) : (ints xs).length = xs.length := by simp [ints]
theorem ints_append (xs ys : List Int) : ints (xs ++ ys) = ints xs ++ ints ys := by simp [ints]
theorem ints_get {xs : List Int} {i : Nat} {x : Int} (h : xs[i]? = some x) : (ints xs)[i]? = some (.int .i64 x) := by simp [ints, h]
theorem ints_get_inv {xs : List Int} {i : Nat} {u : Value} (h : (ints xs)[i]? = some u) : ∃ x, xs[i]? = some x ∧ u = .int .i64 x := by
  rw [ints, List.getElem?_map] at h
  obtain ⟨x, hx, rfl⟩ := Option.map_eq_some_iff.1 h
  exact ⟨x, hx, rfl⟩
theorem ints_splice (L : List Int) (off : Nat) (cs : List Int) : splice (ints L) off (ints cs) = ints (splice L off cs) := by
  simp [splice, ints, List.map_append, List.map_take, List.map_drop]

theorem splice_get (L : List Int) (off : Nat) (cs : List Int) (h : off + cs.length ≤ L.length) (j : Nat) : (splice L off cs)[j]? = if off ≤ j ∧ j < off + cs.length then cs[j - off]? else L[j]? := by
  unfold splice
  have hl : (L.take off).length = off := by rw [List.length_take]; omega
  by_cases h1 : j < off
  · rw [List.getElem?_append_left (by omega), List.getElem?_take, if_pos h1, if_neg (by omega)]
  · rw [List.getElem?_append_right (by omega), hl]
    by_cases h2 : j < off + cs.length
    · rw [List.getElem?_append_left (by omega), if_pos (by omega)]
    · rw [List.getElem?_append_right (by omega), List.getElem?_drop, if_neg (by omega)]
      congr 1
      omega

def At (w : World) (a : Option Addr) (xs : List Int) : Prop := ∀ (i : Nat) (x : Int), xs[i]? = some x → ∃ b off, a = some ⟨b, off, none⟩ ∧ w.cell? ⟨b, off + i, none⟩ = some (.int .i64 x)

theorem At.keep {w w' : World} {a : Option Addr} {xs : List Int} (h : At w a xs) (hk : ∀ ad, a = some ad → ad.block < w.heap.size → w'.heap[ad.block]? = w.heap[ad.block]?) : At w' a xs := by
  intro i x hx
  obtain ⟨b, off, rfl, hc⟩ := h i x hx
  have hb : b < w.heap.size := World.block_lt_of_cell? w _ hc
  exact ⟨b, off, rfl, (World.cell?_of_block (a := ⟨b, off + i, none⟩) (hk ⟨b, off, none⟩ rfl hb)).trans hc⟩
theorem At.fr {S : Nat → Prop} {w w' : World} {a : Option Addr} {xs : List Int} (h : At w a xs) (hf : Fr S w w') (hS : ∀ ad, a = some ad → ¬ S ad.block) : At w' a xs :=
  h.keep fun ad ha hb => hf.block _ hb (hS ad ha)
theorem At.frNo {w w' : World} {a : Option Addr} {xs : List Int} (h : At w a xs) (hf : Fr No w w') : At w' a xs := h.fr hf fun _ _ h => h
theorem At.nil (w : World) (a : Option Addr) : At w a [] := fun i x hx => by simp at hx
theorem At.take {w : World} {a : Option Addr} {xs : List Int} (h : At w a xs) (k : Nat) : At w a (xs.take k) := by
  intro i x hx
  rw [List.getElem?_take] at hx
  split at hx
  · exact h i x hx
  · cases hx
theorem At.drop {w : World} {b off : Nat} {xs : List Int} (h : At w (some ⟨b, off, none⟩) xs) (k : Nat) : At w (some ⟨b, off + k, none⟩) (xs.drop k) := by
  intro i x hx
  rw [List.getElem?_drop] at hx
  obtain ⟨b', off', he, hc⟩ := h (k + i) x hx
  cases he
  exact ⟨b, off + k, rfl, by rw [Nat.add_assoc]; exact hc⟩
theorem At.lt {w : World} {ad : Addr} {xs : List Int} (h : At w (some ad) xs) (hn : 0 < xs.length) : ad.block < w.heap.size := by
  obtain ⟨b, off, he, hc⟩ := h 0 xs[0] (List.getElem?_eq_getElem hn)
  cases he
  exact World.block_lt_of_cell? w _ hc
theorem At.block {w : World} {g : Nat} {xs : List Int} {t : TypeId} (h : w.heap[g]? = some (.cells (ints xs).toArray t (0, 0))) : At w (some ⟨g, 0, none⟩) xs := by
  intro i x hx
  refine ⟨g, 0, rfl, ?_⟩
  rw [Nat.zero_add, cell_of_row w g i _ _ _ h]
  simpa using ints_get hx
theorem At.own {w : World} {base n cap : Nat} {a : Option Addr} {xs : List Int} (h : w.ownsRow base 3 1 (.slice a n cap) n (ints xs)) : At w a xs := by
  intro i x hx
  have hl := h.1
  rw [ints_length] at hl
  have hi : i < xs.length := (List.getElem?_eq_some_iff.1 hx).1
  obtain ⟨g, cap', hv, _⟩ := h.form (by omega)
  cases hv
  refine ⟨g, 0, rfl, ?_⟩
  rw [Nat.zero_add, h.cellAt i (by omega)]
  exact ints_get hx
theorem At.src {w : World} {ad : Addr} {xs : List Int} (h : At w (some ad) xs) : ∀ (j : Nat) (u : Value), (ints xs)[j]? = some u → w.cell? (ad.add j) = some u := by
  intro j u hj
  obtain ⟨x, hx, rfl⟩ := ints_get_inv hj
  obtain ⟨b, off, he, hc⟩ := h j x hx
  cases he
  rw [Go.WideShapes.add_plain]
  exact hc

theorem row_keep {w w' : World} {e : TypeId} {K : Nat} {sv : Value} {xs : List Value} {m : Nat} {base : Nat} (h : w.ownsRow base e K sv m xs) (hw : ∀ k, sv.ownBlock = some k → w'.heap[k]? = w.heap[k]?) : w'.ownsRow base e K sv m xs := by
  refine ⟨h.1, ?_⟩
  rcases h.2 with h1 | ⟨g, cap, cur, hv, hb', hg, hr⟩
  · exact .inl h1
  · exact .inr ⟨g, cap, cur, hv, hb', (hw g (by rw [hv]; rfl)).trans hg, hr⟩
theorem row_frNo {w w' : World} {e : TypeId} {K : Nat} {sv : Value} {xs : List Value} {m : Nat} {base : Nat} (h : w.ownsRow base e K sv m xs) (hf : Fr No w w') : w'.ownsRow base e K sv m xs :=
  row_keep h fun k hk => hf.block k (h.lt k hk).2 (fun h => h)
theorem row_any {w : World} {e : TypeId} {K : Nat} {sv : Value} {xs : List Value} {m : Nat} {base : Nat} (h : w.ownsRow base e K sv m xs) : ∃ a cap, sv = .slice a m cap ∧ m ≤ cap ∧ (a = none → cap = 0) ∧ (∀ ad, a = some ad → base ≤ ad.block) := by
  rcases h.2 with ⟨hv, hn'⟩ | ⟨g, cap, cur, hv, hb, _, hm, _⟩
  · exact ⟨none, 0, by rw [hv, hn'], by omega, fun _ => rfl, fun ad h => by cases h⟩
  · exact ⟨_, cap, hv, hm, (fun h => by cases h), fun ad h => by cases h; exact hb⟩

/-! ### a ring buffer in memory -/

structure Raw (w : World) (hb : Nat) (sv : Value) (L : List Int) (f c size : Nat) : Prop where
  hdr : w.heap[hb]? = some (.cells #[sv, .int .i64 f, .int .i64 c, .int .i64 size] 54 (0, 0))
  row : (sv = .slice none 0 0 ∧ L = []) ∨ ∃ g, sv = .slice (some ⟨g, 0, none⟩) L.length L.length ∧ w.heap[g]? = some (.cells (ints L).toArray 3 (0, 0)) ∧ 0 < L.length ∧ g ≠ hb

def Own (hb : Nat) (sv : Value) (k : Nat) : Prop := k = hb ∨ sv.ownBlock = some k

section
variable {w w' : World} {hb : Nat} {sv : Value} {L : List Int} {f c size : Nat}

theorem Raw.lt (h : Raw w hb sv L f c size) : hb < w.heap.size := (Array.getElem?_eq_some_iff.1 h.hdr).1
theorem Raw.own_lt (h : Raw w hb sv L f c size) {k : Nat} (hk : Own hb sv k) : k < w.heap.size := by
  rcases hk with rfl | hk
  · exact h.lt
  · rcases h.row with ⟨rfl, _⟩ | ⟨g, rfl, hg, _⟩
    · cases hk
    · cases hk
      exact (Array.getElem?_eq_some_iff.1 hg).1

theorem Raw.keep (h : Raw w hb sv L f c size) (hw : ∀ k, Own hb sv k → w'.heap[k]? = w.heap[k]?) : Raw w' hb sv L f c size := by
  refine ⟨(hw hb (.inl rfl)).trans h.hdr, ?_⟩
  rcases h.row with h1 | ⟨g, hv, hg, h3⟩
  · exact .inl h1
  · exact .inr ⟨g, hv, (hw g (.inr (by rw [hv]; rfl))).trans hg, h3⟩
theorem Raw.fr {S : Nat → Prop} (h : Raw w hb sv L f c size) (hf : Fr S w w') (hS : ∀ k, Own hb sv k → ¬ S k) : Raw w' hb sv L f c size :=
  h.keep fun k hk => hf.block k (h.own_lt hk) (hS k hk)
theorem Raw.frNo (h : Raw w hb sv L f c size) (hf : Fr No w w') : Raw w' hb sv L f c size := h.fr hf fun _ _ h => h

theorem Raw.any (h : Raw w hb sv L f c size) : ∃ a, sv = .slice a L.length L.length := by
  rcases h.row with ⟨hv, hl⟩ | ⟨g, hv, _⟩
  · exact ⟨none, by rw [hv, hl]; rfl⟩
  · exact ⟨_, hv⟩
theorem Raw.form (h : Raw w hb sv L f c size) (hn : 0 < L.length) : ∃ g, sv = .slice (some ⟨g, 0, none⟩) L.length L.length ∧ w.heap[g]? = some (.cells (ints L).toArray 3 (0, 0)) ∧ g ≠ hb := by
  rcases h.row with ⟨_, rfl⟩ | ⟨g, hv, hg, _, hne⟩
  · simp at hn
  · exact ⟨g, hv, hg, hne⟩

theorem Raw.hcell (h : Raw w hb sv L f c size) : w.cell? ⟨hb, 0, none⟩ = some sv ∧ w.cell? ⟨hb, 1, none⟩ = some (.int .i64 f) ∧ w.cell? ⟨hb, 2, none⟩ = some (.int .i64 c) ∧ w.cell? ⟨hb, 3, none⟩ = some (.int .i64 size) := by
  refine ⟨?_, ?_, ?_, ?_⟩ <;> rw [cell_of_row w hb _ _ _ _ h.hdr] <;> rfl
theorem Raw.hfrozen (h : Raw w hb sv L f c size) (j : Nat) : w.frozen? ⟨hb, j, none⟩ = false := frozen_of_row w hb j _ _ h.hdr

theorem Raw.setFirst (h : Raw w hb sv L f c size) (f' : Nat) : Raw (w.setCell ⟨hb, 1, none⟩ (.int .i64 f')) hb sv L f' c size := by
  refine ⟨by rw [heap_setCell_same w hb 1 _ _ _ h.hdr]; rfl, ?_⟩
  rcases h.row with h1 | ⟨g, hv, hg, h3, hne⟩
  · exact .inl h1
  · exact .inr ⟨g, hv, (heap_setCell_other _ _ _ _ hne).trans hg, h3, hne⟩
theorem Raw.setCount (h : Raw w hb sv L f c size) (c' : Nat) : Raw (w.setCell ⟨hb, 2, none⟩ (.int .i64 c')) hb sv L f c' size := by
  refine ⟨by rw [heap_setCell_same w hb 2 _ _ _ h.hdr]; rfl, ?_⟩
  rcases h.row with h1 | ⟨g, hv, hg, h3, hne⟩
  · exact .inl h1
  · exact .inr ⟨g, hv, (heap_setCell_other _ _ _ _ hne).trans hg, h3, hne⟩

theorem Raw.splice {g n n' : Nat} (h : Raw w hb (.slice (some ⟨g, 0, none⟩) n n') L f c size) (off : Nat) (cs : List Int) (hfit : off + cs.length ≤ L.length) :
    Raw (w.setRow g ((ints L).take off ++ (ints cs ++ (ints L).drop (off + (ints cs).length))).toArray) hb (.slice (some ⟨g, 0, none⟩) n n') (Go.splice L off cs) f c size := by
  rcases h.row with ⟨hv, _⟩ | ⟨g', hv, hg, h3, hne⟩
  · cases hv
  · cases hv
    have hl : (Go.splice L off cs).length = L.length := length_splice _ _ _ hfit
    refine ⟨(setRow_other w g hb _ (Ne.symm hne)).trans h.hdr, .inr ⟨g, by rw [hl], ?_, by omega, hne⟩⟩
    have := setRow_heap w g _ ((ints L).take off ++ (ints cs ++ (ints L).drop (off + (ints cs).length))).toArray 3 _ hg
    rw [this, ← ints_splice]
    rfl
end

/-- Which elements a ring buffer holds. -/
def ix (n f i : Nat) : Nat := if f + i < n then f + i else f + i - n

structure Sound (L : List Int) (f : Nat) (Q : List Int) (size : Nat) : Prop where
  len : L.length ≤ size
  size : size ≤ 4096
  first : f < L.length ∨ (f = 0 ∧ L.length = 0)
  count : Q.length ≤ L.length
  view : ∀ i, i < Q.length → L[ix L.length f i]? = Q[i]?

structure RingAt (S : Nat → Prop) (w : World) (hb : Nat) (Q : List Int) (size : Nat) : Prop where
  raw : ∃ sv L f, Raw w hb sv L f Q.length size ∧ Sound L f Q size ∧ ∀ k, Own hb sv k → S k

section
variable {S T : Nat → Prop} {w w' : World} {hb : Nat} {Q : List Int} {size : Nat}

theorem RingAt.fr (h : RingAt S w hb Q size) (hf : Fr T w w') (hT : ∀ k, S k → ¬ T k) : RingAt S w' hb Q size := by
  obtain ⟨sv, L, f, hr, hg, hs⟩ := h
  exact ⟨sv, L, f, hr.fr hf (fun k hk => hT k (hs k hk)), hg, hs⟩
theorem RingAt.frNo (h : RingAt S w hb Q size) (hf : Fr No w w') : RingAt S w' hb Q size := h.fr hf fun _ _ h => h
theorem RingAt.mono (h : RingAt S w hb Q size) (hT : ∀ k, k < w.heap.size → S k → T k) : RingAt T w hb Q size := by
  obtain ⟨sv, L, f, hr, hg, hs⟩ := h
  exact ⟨sv, L, f, hr, hg, fun k hk => hT k (hr.own_lt hk) (hs k hk)⟩
theorem RingAt.len (h : RingAt S w hb Q size) : Q.length ≤ size ∧ size ≤ 4096 := by
  obtain ⟨sv, L, f, hr, hg, hs⟩ := h
  exact ⟨Nat.le_trans hg.count hg.len, hg.size⟩
end

end Go.Proofs.Ytmgpeonnmfidhaa
