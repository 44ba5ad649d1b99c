/-
  How a descriptor table of this package lies in memory, and what a frame of a call leaves alone; no walk.
  Conditions: as each theorem says.
-/
import Derived.Test.YtanhjjinedjaaaaRows
import Derived.WalkKit
import Derived.ProofKit
import Derived.OpenShut
import Derived.Below
import Derived.Lib.Hide
import Derived.StillTailTactics
import Derived.Sort.Grow
import Derived.Deep.Draws
import Derived.Deep.AppendLies
import Derived.Deep.LoopGhost
import Derived.BigQuiet
import Derived.Laws.CopyOwn
import Derived.Laws.AppendOwnNone
import Derived.Lib.SliceRun
import Derived.Lib.AppendZeros
import Derived.Lib.AppendZerosOnto
import Derived.Lib.Overlaps
import Derived.Deep.RegionHeld3
import Derived.Deep.RegionLawGrows
namespace Go.Proofs.Ytanhjjinedjaaaa
open Go.ChangeShapes Go.WideShapes Go.ChangeAt Go.RowKit
set_option linter.unusedVariables false

theorem ret_int {k : IntKind} {a b : Int} (h : a = b) : Ending.returned (.int k a) = .returned (.int k b) := by rw [h]

theorem region_tail {P : Program} {id : Nat} {Q : Exit → Act → World → Prop} {a : Act} {w : World} {l : List Oper} (n : Nat) (hm : P.follows .mixedOrders = true) (hB : Region.lexTailB .any l.toArray n = true)
    (h : ∀ y, y = w.drew → wpStill P l.toArray y (fun a' => wpList P l.toArray Q (l.drop n) a' y) (l.take n) a) : (Code.region id l.toArray true).wp P Q a w := wp_region_still_tail n hm hB (h _ rfl)

/-! ### frames -/

structure Fr (S : Nat → Prop) (w w' : World) : Prop where
  os : w'.os = w.os
  tape : w'.tape = w.tape
  output : w'.output = w.output
  size : w.heap.size ≤ w'.heap.size
  block : ∀ k, k < w.heap.size → ¬ S k → w'.heap[k]? = w.heap[k]?

def No : Nat → Prop := fun _ => False

theorem Fr.refl (S : Nat → Prop) (w : World) : Fr S w w := ⟨rfl, rfl, rfl, Nat.le_refl _, fun _ _ _ => rfl⟩
theorem Fr.trans {S : Nat → Prop} {a b c : World} (h : Fr S a b) (k : Fr S b c) : Fr S a c :=
  ⟨k.os.trans h.os, k.tape.trans h.tape, k.output.trans h.output, Nat.le_trans h.size k.size, fun i hi hs => (k.block i (Nat.lt_of_lt_of_le hi h.size) hs).trans (h.block i hi hs)⟩
theorem Fr.mono {S T : Nat → Prop} {a b : World} (h : Fr S a b) (hST : ∀ k, k < a.heap.size → S k → T k) : Fr T a b :=
  ⟨h.os, h.tape, h.output, h.size, fun k hk ht => h.block k hk (fun hs => ht (hST k hk hs))⟩
theorem Fr.no {S : Nat → Prop} {a b : World} (h : Fr No a b) : Fr S a b := h.mono fun _ _ h => h.elim
theorem Fr.drew (S : Nat → Prop) (w : World) : Fr S w w.drew := ⟨rfl, rfl, rfl, Nat.le_refl _, fun _ _ _ => rfl⟩
theorem Fr.drewN (S : Nat → Prop) (w : World) (q : Nat) : Fr S w (w.drewN q) := ⟨rfl, rfl, rfl, Nat.le_refl _, fun _ _ _ => rfl⟩
theorem Fr.alloc (S : Nat → Prop) (w : World) (o : Obj) : Fr S w (w.alloc o) := ⟨rfl, rfl, rfl, by simp, fun k hk _ => Below.heap_alloc _ _ _ hk⟩
theorem Fr.setCell (S : Nat → Prop) (w : World) (a : Addr) (u : Value) (h : S a.block) : Fr S w (w.setCell a u) :=
  ⟨rfl, rfl, rfl, by simp [World.setCell], fun k hk hs => Below.heap_setCell _ _ _ _ (fun e => hs (e ▸ h))⟩
theorem Fr.setRow (S : Nat → Prop) (w : World) (g : Nat) (cs : Array Value) (h : S g) : Fr S w (w.setRow g cs) :=
  ⟨rfl, rfl, rfl, by simp [World.setRow], fun k hk hs => setRow_other w g k cs (fun e => hs (e ▸ h))⟩
theorem Fr.grown {S : Nat → Prop} {w w' : World} {row : Option Nat} (hg : w.grownBy w' row) (h : ∀ k, row = some k → S k) : Fr S w w' :=
  ⟨hg.os, hg.tape, hg.output, hg.size, fun k hk hs => hg.block k hk (fun e => hs (h k e.symm))⟩
theorem Fr.below {S : Nat → Prop} {B : Nat} {w w' : World} (h : Fr S w w') (hS : ∀ k, S k → B ≤ k) (hB : B ≤ w.heap.size) : Below B w w' :=
  ⟨h.os, h.tape, h.output, h.size, fun k hk => h.block k (by omega) (fun hs => by have := hS k hs; omega)⟩
theorem Fr.ofNew {S T : Nat → Prop} {a b c : World} (h : Fr S a b) (k : Fr T b c) (hT : ∀ k, T k → S k ∨ a.heap.size ≤ k) : Fr S a c :=
  ⟨k.os.trans h.os, k.tape.trans h.tape, k.output.trans h.output, Nat.le_trans h.size k.size, fun i hi hs => (k.block i (Nat.lt_of_lt_of_le hi h.size) (fun ht => by rcases hT i ht with h1 | h1; exact hs h1; omega)).trans (h.block i hi hs)⟩
theorem fr_base {w w' : World} (h : Fr (fun k => w.heap.size ≤ k) w w') : Fr No w w' :=
  ⟨h.os, h.tape, h.output, h.size, fun k hk _ => h.block k hk (by omega)⟩

theorem info_parts {P : Program} {e : TypeId} {z : Option Value} {s b : Nat} (h : (P.info? e).map (fun i => (i.zero, i.size, i.bytes)) = some (z, s, b)) : ∃ i, P.info? e = some i ∧ i.zero = z ∧ i.size = s ∧ i.bytes = b := by
  cases hi : P.info? e with
  | none => rw [hi] at h; cases h
  | some i => rw [hi] at h; simp at h; exact ⟨i, rfl, h.1, h.2.1, h.2.2⟩

theorem info61 : (Try.prog.info? 61).map (fun i => (i.zero, i.size, i.bytes)) = some (some (.agg #[.int .i64 0, .int .i64 0, .int .i64 0, .int .i64 0]), 4, 32) := by kernel_rfl
theorem info47 : (Try.prog.info? 47).map (fun i => (i.zero, i.size, i.bytes)) = some (some (.agg #[.int .i64 0, .int .i64 0, .int .i64 0, .int .i64 0]), 4, 32) := by kernel_rfl
theorem info38 : (Try.prog.info? 38).map (fun i => (i.zero, i.size, i.bytes)) = some (some (.agg #[.int .i64 0, .int .i64 0]), 2, 16) := by kernel_rfl

/-! ### rows of integers -/

def ints (xs : List Int) : List Value := xs.map (Value.int .i64)

theorem ints_one (xs : List Int) : ∀ u ∈ ints xs, u.oneCell' = true := by
  intro u hu
  obtain ⟨n, _, rfl⟩ := List.mem_map.1 hu
  rfl
theorem ints_length (xs : List Int) : (ints xs).length = xs.length := by simp [ints]
theorem ints_append (xs ys : List Int) : ints (xs ++ ys) = ints xs ++ ints ys := by simp [ints]
theorem ints_get {xs : List Int} {i : Nat} {x : Int} (h : xs[i]? = some x) : (ints xs)[i]? = some (.int .i64 x) := by simp [ints, h]
theorem ints_get_inv {xs : List Int} {i : Nat} {u : Value} (h : (ints xs)[i]? = some u) : ∃ x, xs[i]? = some x ∧ u = .int .i64 x := by
  rw [ints, List.getElem?_map] at h
  obtain ⟨x, hx, rfl⟩ := Option.map_eq_some_iff.1 h
  exact ⟨x, hx, rfl⟩
theorem ints_splice (L : List Int) (off : Nat) (cs : List Int) : splice (ints L) off (ints cs) = ints (splice L off cs) := by
  simp [splice, ints, List.map_append, List.map_take, List.map_drop]

theorem splice_get (L : List Int) (off : Nat) (cs : List Int) (h : off + cs.length ≤ L.length) (j : Nat) : (splice L off cs)[j]? = if off ≤ j ∧ j < off + cs.length then cs[j - off]? else L[j]? := by
  unfold splice
  have hl : (L.take off).length = off := by rw [List.length_take]; omega
  by_cases h1 : j < off
  · rw [List.getElem?_append_left (by omega), List.getElem?_take, if_pos h1, if_neg (by omega)]
  · rw [List.getElem?_append_right (by omega), hl]
    by_cases h2 : j < off + cs.length
    · rw [List.getElem?_append_left (by omega), if_pos (by omega)]
    · rw [List.getElem?_append_right (by omega), List.getElem?_drop, if_neg (by omega)]
      congr 1
      omega

def At (w : World) (a : Option Addr) (xs : List Int) : Prop := ∀ (i : Nat) (x : Int), xs[i]? = some x → ∃ b off, a = some ⟨b, off, none⟩ ∧ w.cell? ⟨b, off + i, none⟩ = some (.int .i64 x)

theorem At.keep {w w' : World} {a : Option Addr} {xs : List Int} (h : At w a xs) (hk : ∀ ad, a = some ad → ad.block < w.heap.size → w'.heap[ad.block]? = w.heap[ad.block]?) : At w' a xs := by
  intro i x hx
  obtain ⟨b, off, rfl, hc⟩ := h i x hx
  have hb : b < w.heap.size := World.block_lt_of_cell? w _ hc
  exact ⟨b, off, rfl, (World.cell?_of_block (a := ⟨b, off + i, none⟩) (hk ⟨b, off, none⟩ rfl hb)).trans hc⟩
theorem At.fr {S : Nat → Prop} {w w' : World} {a : Option Addr} {xs : List Int} (h : At w a xs) (hf : Fr S w w') (hS : ∀ ad, a = some ad → ¬ S ad.block) : At w' a xs :=
  h.keep fun ad ha hb => hf.block _ hb (hS ad ha)
theorem At.frNo {w w' : World} {a : Option Addr} {xs : List Int} (h : At w a xs) (hf : Fr No w w') : At w' a xs := h.fr hf fun _ _ h => h
theorem At.nil (w : World) (a : Option Addr) : At w a [] := fun i x hx => by simp at hx
theorem At.take {w : World} {a : Option Addr} {xs : List Int} (h : At w a xs) (k : Nat) : At w a (xs.take k) := by
  intro i x hx
  rw [List.getElem?_take] at hx
  split at hx
  · exact h i x hx
  · cases hx
theorem At.drop {w : World} {b off : Nat} {xs : List Int} (h : At w (some ⟨b, off, none⟩) xs) (k : Nat) : At w (some ⟨b, off + k, none⟩) (xs.drop k) := by
  intro i x hx
  rw [List.getElem?_drop] at hx
  obtain ⟨b', off', he, hc⟩ := h (k + i) x hx
  cases he
  exact ⟨b, off + k, rfl, by rw [Nat.add_assoc]; exact hc⟩
theorem At.lt {w : World} {ad : Addr} {xs : List Int} (h : At w (some ad) xs) (hn : 0 < xs.length) : ad.block < w.heap.size := by
  obtain ⟨b, off, he, hc⟩ := h 0 xs[0] (List.getElem?_eq_getElem hn)
  cases he
  exact World.block_lt_of_cell? w _ hc
theorem At.block {w : World} {g : Nat} {xs : List Int} {t : TypeId} (h : w.heap[g]? = some (.cells (ints xs).toArray t (0, 0))) : At w (some ⟨g, 0, none⟩) xs := by
  intro i x hx
  refine ⟨g, 0, rfl, ?_⟩
  rw [Nat.zero_add, cell_of_row w g i _ _ _ h]
  simpa using ints_get hx
theorem At.own {w : World} {base n cap K : Nat} {e : TypeId} {a : Option Addr} {xs : List Int} (h : w.ownsRow base e K (.slice a n cap) n (ints xs)) : At w a xs := by
  intro i x hx
  have hl := h.1
  rw [ints_length] at hl
  have hi : i < xs.length := (List.getElem?_eq_some_iff.1 hx).1
  obtain ⟨g, cap', hv, _⟩ := h.form (by rcases Nat.eq_zero_or_pos n with rfl | h0; exact absurd hl (by rw [Nat.zero_mul]; omega); exact h0)
  cases hv
  refine ⟨g, 0, rfl, ?_⟩
  rw [Nat.zero_add, h.cellAt i (by omega)]
  exact ints_get hx
theorem At.src {w : World} {ad : Addr} {xs : List Int} (h : At w (some ad) xs) : ∀ (j : Nat) (u : Value), (ints xs)[j]? = some u → w.cell? (ad.add j) = some u := by
  intro j u hj
  obtain ⟨x, hx, rfl⟩ := ints_get_inv hj
  obtain ⟨b, off, he, hc⟩ := h j x hx
  cases he
  rw [Go.WideShapes.add_plain]
  exact hc

theorem row_keep {w w' : World} {e : TypeId} {K : Nat} {sv : Value} {xs : List Value} {m : Nat} {base : Nat} (h : w.ownsRow base e K sv m xs) (hw : ∀ k, sv.ownBlock = some k → w'.heap[k]? = w.heap[k]?) : w'.ownsRow base e K sv m xs := by
  refine ⟨h.1, ?_⟩
  rcases h.2 with h1 | ⟨g, cap, cur, hv, hb', hg, hr⟩
  · exact .inl h1
  · exact .inr ⟨g, cap, cur, hv, hb', (hw g (by rw [hv]; rfl)).trans hg, hr⟩
theorem row_frNo {w w' : World} {e : TypeId} {K : Nat} {sv : Value} {xs : List Value} {m : Nat} {base : Nat} (h : w.ownsRow base e K sv m xs) (hf : Fr No w w') : w'.ownsRow base e K sv m xs :=
  row_keep h fun k hk => hf.block k (h.lt k hk).2 (fun h => h)
theorem row_any {w : World} {e : TypeId} {K : Nat} {sv : Value} {xs : List Value} {m : Nat} {base : Nat} (h : w.ownsRow base e K sv m xs) : ∃ a cap, sv = .slice a m cap ∧ m ≤ cap ∧ (a = none → cap = 0) ∧ (∀ ad, a = some ad → base ≤ ad.block) := by
  rcases h.2 with ⟨hv, hn'⟩ | ⟨g, cap, cur, hv, hb, _, hm, _⟩
  · exact ⟨none, 0, by rw [hv, hn'], by omega, fun _ => rfl, fun ad h => by cases h⟩
  · exact ⟨_, cap, hv, hm, (fun h => by cases h), fun ad h => by cases h; exact hb⟩

/-! ### descriptors -/

structure D where
  c : Int
  a : Int
  no : Nat
  st : Int

def D.enc (d : D) : List Int := [d.c, d.a, (d.no : Int), d.st]

def flat : List D → List Int
  | [] => []
  | d :: L => d.enc ++ flat L

theorem flat_length (L : List D) : (flat L).length = L.length * 4 := by
  induction L with
  | nil => rfl
  | cons d L ih => simp [flat, D.enc, ih]; omega
theorem flat_append (A B : List D) : flat (A ++ B) = flat A ++ flat B := by
  induction A with
  | nil => rfl
  | cons a A ih => simp [flat, ih]
theorem flat_take (L : List D) : ∀ i, flat (L.take i) = (flat L).take (i * 4) := by
  induction L with
  | nil => intro i; simp [flat]
  | cons d L ih =>
    intro i
    cases i with
    | zero => simp [flat]
    | succ i => rw [List.take_succ_cons, flat, flat, ih, List.take_append, show d.enc.length = 4 from rfl, List.take_of_length_le (l := d.enc) (by show 4 ≤ _; omega), show (i + 1) * 4 - 4 = i * 4 by omega]
theorem flat_drop (L : List D) : ∀ i, flat (L.drop i) = (flat L).drop (i * 4) := by
  induction L with
  | nil => intro i; simp [flat]
  | cons d L ih =>
    intro i
    cases i with
    | zero => simp
    | succ i => rw [List.drop_succ_cons, flat, ih, List.drop_append, show d.enc.length = 4 from rfl, List.drop_of_length_le (l := d.enc) (by show 4 ≤ _; omega), show (i + 1) * 4 - 4 = i * 4 by omega, List.nil_append]
theorem flat_get : ∀ (L : List D) (i : Nat) (d : D), L[i]? = some d → ∀ (j : Nat) (v : Int), d.enc[j]? = some v → (flat L)[i * 4 + j]? = some v := by
  intro L
  induction L with
  | nil => intro i d hi; simp at hi
  | cons a A ih =>
    intro i d hi j v hv
    have ha : a.enc.length = 4 := rfl
    cases i with
    | zero =>
      simp at hi
      subst hi
      have hj := (List.getElem?_eq_some_iff.1 hv).1
      rw [flat, List.getElem?_append_left (by omega)]
      simpa using hv
    | succ i =>
      rw [flat, List.getElem?_append_right (by omega), ha, show (i + 1) * 4 + j - 4 = i * 4 + j by omega]
      exact ih i d (by simpa using hi) j v hv
theorem flat_set : ∀ (L : List D) (i : Nat) (d : D) (s : Int), L[i]? = some d → (flat L).set (i * 4 + 3) s = flat (L.set i { d with st := s }) := by
  intro L
  induction L with
  | nil => intro i d s hi; simp at hi
  | cons a A ih =>
    intro i d s hi
    have ha : a.enc.length = 4 := rfl
    cases i with
    | zero =>
      simp at hi
      subst hi
      rw [flat, List.set_cons_zero, flat, List.set_append_left _ _ (by omega)]
      rfl
    | succ i =>
      rw [flat, List.set_cons_succ, flat, List.set_append_right _ _ (by omega), ha, show (i + 1) * 4 + 3 - 4 = i * 4 + 3 by omega, ih i d s (by simpa using hi)]
theorem flat_insert (L : List D) (i : Nat) (d : D) : flat (L.take i ++ d :: L.drop i) = (flat L).take (i * 4) ++ (d.enc ++ (flat L).drop (i * 4)) := by
  rw [flat_append, flat_take, flat, flat_drop]

/-! ### a row of descriptors -/

def Row (e : TypeId) (w : World) (sv : Value) (L : List D) : Prop := w.ownsRow 0 e 4 sv L.length (ints (flat L))

section
variable {e : TypeId} {w w' : World} {sv : Value} {L : List D}

theorem Row.any (h : Row e w sv L) : ∃ a cap, sv = .slice a L.length cap ∧ L.length ≤ cap ∧ cap ≤ maxLen := by
  rcases h.2 with ⟨hv, hn'⟩ | ⟨g, cap, cur, hv, _, _, hm, hx, _⟩
  · exact ⟨none, 0, by rw [hv, hn'], by omega, by unfold maxLen; omega⟩
  · exact ⟨_, cap, hv, hm, hx⟩
theorem Row.form {a : Option Addr} {n cap : Nat} (h : Row e w (.slice a n cap) L) (hn : 0 < L.length) : ∃ g, a = some ⟨g, 0, none⟩ ∧ g < w.heap.size := by
  obtain ⟨g, cap', hv, _, hlt⟩ := World.ownsRow.form h hn
  cases hv
  exact ⟨g, rfl, hlt⟩
theorem Row.len {a : Option Addr} {n cap : Nat} (h : Row e w (.slice a n cap) L) : n = L.length := by
  obtain ⟨a', cap', hv, _⟩ := h.any
  cases hv; rfl
theorem Row.lt (h : Row e w sv L) {k : Nat} (hk : sv.ownBlock = some k) : k < w.heap.size := (World.ownsRow.lt h k hk).2
theorem Row.keep (h : Row e w sv L) (hw : ∀ k, sv.ownBlock = some k → w'.heap[k]? = w.heap[k]?) : Row e w' sv L := row_keep h hw
theorem Row.frNo (h : Row e w sv L) (hf : Fr No w w') : Row e w' sv L := h.keep fun k hk => hf.block k (h.lt hk) (fun h => h)
theorem Row.cells {g n cap : Nat} (h : Row e w (.slice (some ⟨g, 0, none⟩) n cap) L) {i : Nat} {d : D} (hi : L[i]? = some d) :
    w.cell? ⟨g, i * 4, none⟩ = some (.int .i64 d.c) ∧ w.cell? ⟨g, i * 4 + 1, none⟩ = some (.int .i64 d.a) ∧ w.cell? ⟨g, i * 4 + 2, none⟩ = some (.int .i64 d.no) ∧ w.cell? ⟨g, i * 4 + 3, none⟩ = some (.int .i64 d.st) := by
  obtain rfl := h.len
  have hil : i < L.length := (List.getElem?_eq_some_iff.1 hi).1
  have hc : ∀ (j : Nat) (v : Int), d.enc[j]? = some v → w.cell? ⟨g, i * 4 + j, none⟩ = some (.int .i64 v) := by
    intro j v hv
    have hj := (List.getElem?_eq_some_iff.1 hv).1
    have : d.enc.length = 4 := rfl
    rw [World.ownsRow.cellAt h _ (by omega)]
    exact ints_get (flat_get L i d hi j v hv)
  exact ⟨hc 0 _ rfl, hc 1 _ rfl, hc 2 _ rfl, hc 3 _ rfl⟩
theorem Row.frozen {g n cap : Nat} (h : Row e w (.slice (some ⟨g, 0, none⟩) n cap) L) (j : Nat) : w.frozen? ⟨g, j, none⟩ = false := by
  obtain rfl := h.len
  exact World.ownsRow.frozenAt h j
theorem Row.put {g n cap : Nat} (h : Row e w (.slice (some ⟨g, 0, none⟩) n cap) L) {i : Nat} {d : D} (hi : L[i]? = some d) (s : Int) :
    Row e (w.setCell ⟨g, i * 4 + 3, none⟩ (.int .i64 s)) (.slice (some ⟨g, 0, none⟩) n cap) (L.set i { d with st := s }) := by
  obtain rfl := h.len
  have h1 := (World.ownsRow.stored h (i * 4 + 3) (.int .i64 s)).1
  unfold Row
  rw [List.length_set, ← flat_set L i d s hi]
  have : (ints (flat L)).set (i * 4 + 3) (.int .i64 s) = ints ((flat L).set (i * 4 + 3) s) := by simp [ints, List.map_set]
  rw [← this]
  exact h1
end

/-! ### keys -/

def lt (x y : Int × Int) : Prop := x.1 < y.1 ∨ (x.1 = y.1 ∧ x.2 < y.2)
instance (x y : Int × Int) : Decidable (lt x y) := by unfold lt; exact inferInstance
theorem lt_irrefl (x : Int × Int) : ¬ lt x x := by unfold lt; omega
theorem lt_trans {x y z : Int × Int} (h : lt x y) (k : lt y z) : lt x z := by unfold lt at *; omega
theorem lt_tri (x y : Int × Int) : lt x y ∨ x = y ∨ lt y x := by
  unfold lt
  rcases Int.lt_trichotomy x.1 y.1 with h | h | h
  · exact .inl (.inl h)
  · rcases Int.lt_trichotomy x.2 y.2 with k | k | k
    · exact .inl (.inr ⟨h, k⟩)
    · exact .inr (.inl (Prod.ext h k))
    · exact .inr (.inr (.inr ⟨h.symm, k⟩))
  · exact .inr (.inr (.inl h))

def D.key (d : D) : Int × Int := (d.c, d.a)

def Sorted (L : List D) : Prop := L.Pairwise (fun d e => lt d.key e.key)

/-- The place of a key among sorted entries. -/
def Place (L : List D) (x : Int × Int) (i : Nat) : Prop := i ≤ L.length ∧ (∀ (j : Nat) (d : D), j < i → L[j]? = some d → lt d.key x) ∧ ∀ (j : Nat) (d : D), i ≤ j → L[j]? = some d → ¬ lt d.key x

/-- The smallest number that no entry has. -/
def Least (L : List D) (r : Nat) : Prop := (∀ d ∈ L, d.no ≠ r) ∧ ∀ m, m < r → ∃ d ∈ L, d.no = m

/-! ### a descriptor table in memory -/

structure Raw (w : World) (hb : Nat) (sv : Value) (L : List D) (size op : Nat) : Prop where
  hdr : w.heap[hb]? = some (.cells #[sv, .int .i64 size, .int .i64 op] 59 (0, 0))
  row : Row 61 w sv L
  apart : sv.ownBlock ≠ some hb

def Own (hb : Nat) (sv : Value) (k : Nat) : Prop := k = hb ∨ sv.ownBlock = some k

section
variable {w w' : World} {hb : Nat} {sv : Value} {L : List D} {size op : Nat}

theorem Raw.lt (h : Raw w hb sv L size op) : hb < w.heap.size := (Array.getElem?_eq_some_iff.1 h.hdr).1
theorem Raw.own_lt (h : Raw w hb sv L size op) {k : Nat} (hk : Own hb sv k) : k < w.heap.size := by
  rcases hk with rfl | hk
  · exact h.lt
  · exact h.row.lt hk
theorem Raw.keep (h : Raw w hb sv L size op) (hw : ∀ k, Own hb sv k → w'.heap[k]? = w.heap[k]?) : Raw w' hb sv L size op :=
  ⟨(hw hb (.inl rfl)).trans h.hdr, h.row.keep (fun k hk => hw k (.inr hk)), h.apart⟩
theorem Raw.fr {S : Nat → Prop} (h : Raw w hb sv L size op) (hf : Fr S w w') (hS : ∀ k, Own hb sv k → ¬ S k) : Raw w' hb sv L size op :=
  h.keep fun k hk => hf.block k (h.own_lt hk) (hS k hk)
theorem Raw.frNo (h : Raw w hb sv L size op) (hf : Fr No w w') : Raw w' hb sv L size op := h.fr hf fun _ _ h => h
theorem Raw.hcell (h : Raw w hb sv L size op) : w.cell? ⟨hb, 0, none⟩ = some sv ∧ w.cell? ⟨hb, 1, none⟩ = some (.int .i64 size) ∧ w.cell? ⟨hb, 2, none⟩ = some (.int .i64 op) := by
  refine ⟨?_, ?_, ?_⟩ <;> rw [cell_of_row w hb _ _ _ _ h.hdr] <;> rfl
theorem Raw.hfrozen (h : Raw w hb sv L size op) (j : Nat) : w.frozen? ⟨hb, j, none⟩ = false := frozen_of_row w hb j _ _ h.hdr
theorem Raw.setOpened (h : Raw w hb sv L size op) (op' : Nat) : Raw (w.setCell ⟨hb, 2, none⟩ (.int .i64 op')) hb sv L size op' :=
  ⟨by rw [heap_setCell_same w hb 2 _ _ _ h.hdr]; rfl, h.row.keep fun k hk => heap_setCell_other _ _ _ _ (fun e => h.apart (by rw [hk]; simp [e])), h.apart⟩
/-- The header gets another row. -/
theorem Raw.setRow {sv' : Value} {L' : List D} (h : Raw w hb sv L size op) (hf : Fr (fun k => sv.ownBlock = some k) w w') (hrow : Row 61 w' sv' L') (hat : ∀ k, sv'.ownBlock = some k → sv.ownBlock = some k ∨ w.heap.size ≤ k) :
    Raw (w'.setCell ⟨hb, 0, none⟩ sv') hb sv' L' size op := by
  have hne : sv'.ownBlock ≠ some hb := fun e => by
    rcases hat hb e with h1 | h1
    · exact h.apart h1
    · have := h.lt; omega
  refine ⟨by rw [heap_setCell_same w' hb 0 _ _ _ ((hf.block hb h.lt h.apart).trans h.hdr)]; rfl, hrow.keep fun k hk => heap_setCell_other _ _ _ _ (fun e => hne (by rw [hk]; simp [e])), hne⟩
end

structure Sound (L : List D) (size : Nat) : Prop where
  sorted : Sorted L
  len : L.length ≤ size
  small : size ≤ 256
  no : ∀ d ∈ L, d.no < size
  nodup : L.Pairwise (fun d e => d.no ≠ e.no)

structure TabAt (S : Nat → Prop) (w : World) (hb : Nat) (L : List D) (size op : Nat) : Prop where
  raw : ∃ sv, Raw w hb sv L size op ∧ ∀ k, Own hb sv k → S k
  good : Sound L size

section
variable {S T : Nat → Prop} {w w' : World} {hb : Nat} {L : List D} {size op : Nat}

theorem TabAt.fr (h : TabAt S w hb L size op) (hf : Fr T w w') (hT : ∀ k, S k → ¬ T k) : TabAt S w' hb L size op := by
  obtain ⟨⟨sv, hr, hs⟩, hg⟩ := h
  exact ⟨⟨sv, hr.fr hf (fun k hk => hT k (hs k hk)), hs⟩, hg⟩
theorem TabAt.frNo (h : TabAt S w hb L size op) (hf : Fr No w w') : TabAt S w' hb L size op := h.fr hf fun _ _ h => h
theorem TabAt.mono (h : TabAt S w hb L size op) (hT : ∀ k, k < w.heap.size → S k → T k) : TabAt T w hb L size op := by
  obtain ⟨⟨sv, hr, hs⟩, hg⟩ := h
  exact ⟨⟨sv, hr, fun k hk => hT k (hr.own_lt hk) (hs k hk)⟩, hg⟩
end

end Go.Proofs.Ytanhjjinedjaaaa
