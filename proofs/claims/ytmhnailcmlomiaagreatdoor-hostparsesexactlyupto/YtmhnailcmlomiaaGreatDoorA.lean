/-
  What a frame of a call leaves alone; rows of values in memory; no walk.
  Conditions: as each theorem says.
  Addresses: how one that came in lies, when two are equal, whole blocks read and written at once; no walk.
  Conditions: as each theorem says.
  CONTRACTS of V4, BitLen, Bit and Valid, and of the reference's, over this seat's translation: what each call returns.
  Conditions: the argument is an address.
  CONTRACTS of the reference's Bit, of Valid and of the reference's Valid, over this seat's translation: what each call returns.
  Conditions: the argument is an address.
-/
import Derived.Test.YtmhnailcmlomiaaGreatDoorRows
import Derived.WalkKit
import Derived.ProofKit
import Derived.OpenShut
import Derived.Below
import Derived.Lib.Hide
import Derived.StillTailTactics
import Derived.Sort.Grow
import Derived.Deep.Draws
import Derived.Deep.AppendLies
import Derived.Deep.LoopGhost
import Derived.BigQuiet
import Derived.Laws.CopyOwn
import Derived.Laws.AppendOwnNone
import Derived.Lib.SliceRun
import Derived.Lib.AppendZeros
import Derived.ChangeArms
import Derived.Laws.StructEq
import Derived.Stop.BytesEq
import Derived.Laws.IdiomCopy
import Derived.Shelf.SlicesQ.Load
import Derived.WideShapes
import Derived.Laws.BitsLemmas
import Derived.Deep.RegionHeld3
namespace Go.Proofs.YtmhnailcmlomiaaGreatDoor
open Go.ChangeShapes Go.WideShapes Go.ChangeAt Go.RowKit
set_option linter.unusedVariables false

theorem ret_int {k : IntKind} {a b : Int} (h : a = b) : Ending.returned (.int k a) = .returned (.int k b) := by rw [h]

theorem region_tail {P : Program} {id : Nat} {Q : Exit → Act → World → Prop} {a : Act} {w : World} {l : List Oper} (n : Nat) (hm : P.follows .mixedOrders = true) (hB : Region.lexTailB .any l.toArray n = true)
    (h : ∀ y, y = w.drew → wpStill P l.toArray y (fun a' => wpList P l.toArray Q (l.drop n) a' y) (l.take n) a) : (Code.region id l.toArray true).wp P Q a w := wp_region_still_tail n hm hB (h _ rfl)

/-! ### frames -/

structure Fr (S : Nat → Prop) (w w' : World) : Prop where
  os : w'.os = w.os
  tape : w'.tape = w.tape
  output : w'.output = w.output
  size : w.heap.size ≤ w'.heap.size
  block : ∀ k, k < w.heap.size → ¬ S k → w'.heap[k]? = w.heap[k]?

def No : Nat → Prop := fun _ => False

theorem Fr.refl (S : Nat → Prop) (w : World) : Fr S w w := ⟨rfl, rfl, rfl, Nat.le_refl _, fun _ _ _ => rfl⟩
theorem Fr.trans {S : Nat → Prop} {a b c : World} (h : Fr S a b) (k : Fr S b c) : Fr S a c :=
  ⟨k.os.trans h.os, k.tape.trans h.tape, k.output.trans h.output, Nat.le_trans h.size k.size, fun i hi hs => (k.block i (Nat.lt_of_lt_of_le hi h.size) hs).trans (h.block i hi hs)⟩
theorem Fr.mono {S T : Nat → Prop} {a b : World} (h : Fr S a b) (hST : ∀ k, k < a.heap.size → S k → T k) : Fr T a b :=
  ⟨h.os, h.tape, h.output, h.size, fun k hk ht => h.block k hk (fun hs => ht (hST k hk hs))⟩
theorem Fr.no {S : Nat → Prop} {a b : World} (h : Fr No a b) : Fr S a b := h.mono fun _ _ h => h.elim
theorem Fr.drew (S : Nat → Prop) (w : World) : Fr S w w.drew := ⟨rfl, rfl, rfl, Nat.le_refl _, fun _ _ _ => rfl⟩
theorem Fr.drewN (S : Nat → Prop) (w : World) (q : Nat) : Fr S w (w.drewN q) := ⟨rfl, rfl, rfl, Nat.le_refl _, fun _ _ _ => rfl⟩
theorem Fr.alloc (S : Nat → Prop) (w : World) (o : Obj) : Fr S w (w.alloc o) := ⟨rfl, rfl, rfl, by simp, fun k hk _ => Below.heap_alloc _ _ _ hk⟩
theorem Fr.setCell (S : Nat → Prop) (w : World) (a : Addr) (u : Value) (h : S a.block) : Fr S w (w.setCell a u) :=
  ⟨rfl, rfl, rfl, by simp [World.setCell], fun k hk hs => Below.heap_setCell _ _ _ _ (fun e => hs (e ▸ h))⟩
theorem Fr.setRow (S : Nat → Prop) (w : World) (g : Nat) (cs : Array Value) (h : S g) : Fr S w (w.setRow g cs) :=
  ⟨rfl, rfl, rfl, by simp [World.setRow], fun k hk hs => setRow_other w g k cs (fun e => hs (e ▸ h))⟩
theorem Fr.grown {S : Nat → Prop} {w w' : World} {row : Option Nat} (hg : w.grownBy w' row) (h : ∀ k, row = some k → S k) : Fr S w w' :=
  ⟨hg.os, hg.tape, hg.output, hg.size, fun k hk hs => hg.block k hk (fun e => hs (h k e.symm))⟩
theorem Fr.below {S : Nat → Prop} {B : Nat} {w w' : World} (h : Fr S w w') (hS : ∀ k, S k → B ≤ k) (hB : B ≤ w.heap.size) : Below B w w' :=
  ⟨h.os, h.tape, h.output, h.size, fun k hk => h.block k (by omega) (fun hs => by have := hS k hs; omega)⟩
theorem Fr.belowNo {w w' : World} (h : Fr No w w') : Below w.heap.size w w' := h.below (fun _ h => h.elim) (Nat.le_refl _)
theorem Fr.ofBelow {w w' : World} (h : Below w.heap.size w w') : Fr No w w' := ⟨h.os, h.tape, h.output, h.size, fun k hk _ => h.block k hk⟩
theorem Fr.ofNew {S T : Nat → Prop} {a b c : World} (h : Fr S a b) (k : Fr T b c) (hT : ∀ k, T k → S k ∨ a.heap.size ≤ k) : Fr S a c :=
  ⟨k.os.trans h.os, k.tape.trans h.tape, k.output.trans h.output, Nat.le_trans h.size k.size, fun i hi hs => (k.block i (Nat.lt_of_lt_of_le hi h.size) (fun ht => by rcases hT i ht with h1 | h1; exact hs h1; omega)).trans (h.block i hi hs)⟩
theorem fr_base {w w' : World} (h : Fr (fun k => w.heap.size ≤ k) w w') : Fr No w w' :=
  ⟨h.os, h.tape, h.output, h.size, fun k hk _ => h.block k hk (by omega)⟩
theorem Fr.keep {w w' : World} (h : Fr No w w') {k : Nat} {o : Obj} (hk : w.heap[k]? = some o) : w'.heap[k]? = some o :=
  (h.block k (Array.getElem?_eq_some_iff.1 hk).1 (fun h => h)).trans hk
theorem Fr.cell {w w' : World} (h : Fr No w w') {a : Addr} {v : Value} (hc : w.cell? a = some v) : w'.cell? a = some v :=
  (World.cell?_of_block (h.block _ (World.block_lt_of_cell? w _ hc) (fun h => h))).trans hc

theorem info_parts {P : Program} {e : TypeId} {z : Option Value} {s b : Nat} (h : (P.info? e).map (fun i => (i.zero, i.size, i.bytes)) = some (z, s, b)) : ∃ i, P.info? e = some i ∧ i.zero = z ∧ i.size = s ∧ i.bytes = b := by
  cases hi : P.info? e with
  | none => rw [hi] at h; cases h
  | some i => rw [hi] at h; simp at h; exact ⟨i, rfl, h.1, h.2.1, h.2.2⟩

/-! ### rows -/

/-- Numbers as cells. -/
def nums (k : IntKind) (xs : List Nat) : List Value := xs.map fun (x : Nat) => Value.int k (x : Int)
/-- Strings as cells. -/
def strs (xs : List ByteArray) : List Value := xs.map Value.string

theorem nums_one (k : IntKind) (xs : List Nat) : ∀ u ∈ nums k xs, u.oneCell' = true := by
  intro u hu
  obtain ⟨n, _, rfl⟩ := List.mem_map.1 hu
  rfl
theorem strs_one (xs : List ByteArray) : ∀ u ∈ strs xs, u.oneCell' = true := by
  intro u hu
  obtain ⟨n, _, rfl⟩ := List.mem_map.1 hu
  rfl
theorem nums_length (k : IntKind) (xs : List Nat) : (nums k xs).length = xs.length := by simp [nums]
theorem strs_length (xs : List ByteArray) : (strs xs).length = xs.length := by simp [strs]
theorem nums_append (k : IntKind) (xs ys : List Nat) : nums k (xs ++ ys) = nums k xs ++ nums k ys := by simp [nums]
theorem strs_append (xs ys : List ByteArray) : strs (xs ++ ys) = strs xs ++ strs ys := by simp [strs]
theorem nums_get {k : IntKind} {xs : List Nat} {i x : Nat} (h : xs[i]? = some x) : (nums k xs)[i]? = some (.int k x) := by simp [nums, h]
theorem strs_get {xs : List ByteArray} {i : Nat} {x : ByteArray} (h : xs[i]? = some x) : (strs xs)[i]? = some (.string x) := by simp [strs, h]

/-- A slice whose elements are these cells, wherever it lies. -/
def At (w : World) (a : Option Addr) (vs : List Value) : Prop := ∀ (i : Nat) (v : Value), vs[i]? = some v → ∃ b off, a = some ⟨b, off, none⟩ ∧ w.cell? ⟨b, off + i, none⟩ = some v

theorem At.keep {w w' : World} {a : Option Addr} {xs : List Value} (h : At w a xs) (hk : ∀ ad, a = some ad → ad.block < w.heap.size → w'.heap[ad.block]? = w.heap[ad.block]?) : At w' a xs := by
  intro i x hx
  obtain ⟨b, off, rfl, hc⟩ := h i x hx
  have hb : b < w.heap.size := World.block_lt_of_cell? w _ hc
  exact ⟨b, off, rfl, (World.cell?_of_block (a := ⟨b, off + i, none⟩) (hk ⟨b, off, none⟩ rfl hb)).trans hc⟩
theorem At.fr {S : Nat → Prop} {w w' : World} {a : Option Addr} {xs : List Value} (h : At w a xs) (hf : Fr S w w') (hS : ∀ ad, a = some ad → ¬ S ad.block) : At w' a xs :=
  h.keep fun ad ha hb => hf.block _ hb (hS ad ha)
theorem At.frNo {w w' : World} {a : Option Addr} {xs : List Value} (h : At w a xs) (hf : Fr No w w') : At w' a xs := h.fr hf fun _ _ h => h
theorem At.nil (w : World) (a : Option Addr) : At w a [] := fun i x hx => by simp at hx
theorem At.take {w : World} {a : Option Addr} {xs : List Value} (h : At w a xs) (k : Nat) : At w a (xs.take k) := by
  intro i x hx
  rw [List.getElem?_take] at hx
  split at hx
  · exact h i x hx
  · cases hx
theorem At.drop {w : World} {b off : Nat} {xs : List Value} (h : At w (some ⟨b, off, none⟩) xs) (k : Nat) : At w (some ⟨b, off + k, none⟩) (xs.drop k) := by
  intro i x hx
  rw [List.getElem?_drop] at hx
  obtain ⟨b', off', he, hc⟩ := h (k + i) x hx
  cases he
  exact ⟨b, off + k, rfl, by rw [Nat.add_assoc]; exact hc⟩
theorem At.lt {w : World} {ad : Addr} {xs : List Value} (h : At w (some ad) xs) (hn : 0 < xs.length) : ad.block < w.heap.size := by
  obtain ⟨b, off, he, hc⟩ := h 0 xs[0] (List.getElem?_eq_getElem hn)
  cases he
  exact World.block_lt_of_cell? w _ hc
theorem At.block {w : World} {g : Nat} {xs : List Value} {t : TypeId} {fr : Nat × Nat} (h : w.heap[g]? = some (.cells xs.toArray t fr)) : At w (some ⟨g, 0, none⟩) xs := by
  intro i x hx
  refine ⟨g, 0, rfl, ?_⟩
  rw [Nat.zero_add, cell_of_row w g i _ _ _ h]
  simpa using hx
theorem At.own {w : World} {base n cap e : Nat} {a : Option Addr} {xs : List Value} (h : w.ownsRow base e 1 (.slice a n cap) n xs) : At w a xs := by
  intro i x hx
  have hl := h.1
  have hi : i < xs.length := (List.getElem?_eq_some_iff.1 hx).1
  obtain ⟨g, cap', hv, _⟩ := h.form (by omega)
  cases hv
  refine ⟨g, 0, rfl, ?_⟩
  rw [Nat.zero_add, h.cellAt i (by omega)]
  exact hx
theorem At.src {w : World} {ad : Addr} {xs : List Value} (h : At w (some ad) xs) : ∀ (j : Nat) (u : Value), xs[j]? = some u → w.cell? (ad.add j) = some u := by
  intro j u hj
  obtain ⟨b, off, he, hc⟩ := h j u hj
  cases he
  rw [Go.WideShapes.add_plain]
  exact hc

theorem row_keep {w w' : World} {e : TypeId} {K : Nat} {sv : Value} {xs : List Value} {m : Nat} {base : Nat} (h : w.ownsRow base e K sv m xs) (hw : ∀ k, sv.ownBlock = some k → w'.heap[k]? = w.heap[k]?) : w'.ownsRow base e K sv m xs := by
  refine ⟨h.1, ?_⟩
  rcases h.2 with h1 | ⟨g, cap, cur, hv, hb', hg, hr⟩
  · exact .inl h1
  · exact .inr ⟨g, cap, cur, hv, hb', (hw g (by rw [hv]; rfl)).trans hg, hr⟩
theorem row_frNo {w w' : World} {e : TypeId} {K : Nat} {sv : Value} {xs : List Value} {m : Nat} {base : Nat} (h : w.ownsRow base e K sv m xs) (hf : Fr No w w') : w'.ownsRow base e K sv m xs :=
  row_keep h fun k hk => hf.block k (h.lt k hk).2 (fun h => h)
theorem row_any {w : World} {e : TypeId} {K : Nat} {sv : Value} {xs : List Value} {m : Nat} {base : Nat} (h : w.ownsRow base e K sv m xs) : ∃ a cap, sv = .slice a m cap ∧ m ≤ cap ∧ (a = none → cap = 0) ∧ (∀ ad, a = some ad → base ≤ ad.block) := by
  rcases h.2 with ⟨hv, hn'⟩ | ⟨g, cap, cur, hv, hb, _, hm, _⟩
  · exact ⟨none, 0, by rw [hv, hn'], by omega, fun _ => rfl, fun ad h => by cases h⟩
  · exact ⟨_, cap, hv, hm, (fun h => by cases h), fun ad h => by cases h; exact hb⟩

/-! ### addresses -/

/-- The cells of an address. -/
def adr (b : Bool) (xs : List Nat) : List Value := .bool b :: nums .u8 xs
/-- Sixteen bytes. -/
def Bytes (xs : List Nat) : Prop := xs.length = 16 ∧ ∀ x ∈ xs, x < 256

/-- The package variables that the library's functions read. -/
structure Glob (w : World) : Prop where
  lim : ∃ m, w.cell? ⟨0, 0, none⟩ = some (.int .i64 m)
  pow : ∀ i x, Rows.laid_internal_strconv_uint64pow10 (H := Unit) = .agg x → ∀ v, x[i]? = some (.lit (.int .u64 v)) → w.cell? ⟨1, i, none⟩ = some (.int .u64 v)
  syn : ∃ t p, w.cell? ⟨2, 0, none⟩ = some (.iface t p)
  rng : ∃ t p, w.cell? ⟨3, 0, none⟩ = some (.iface t p)
  tz : ∀ i x, Rows.laid_math_bits_deBruijn64tab (H := Unit) = .agg x → ∀ v, x[i]? = some (.lit (.int .u8 v)) → w.cell? ⟨5, i, none⟩ = some (.int .u8 v)

theorem Glob.fr {w w' : World} (h : Glob w) (hf : Fr No w w') : Glob w' := by
  obtain ⟨⟨m, hm⟩, hp, ⟨t, p, hs⟩, ⟨t', p', hr⟩, hz⟩ := h
  exact ⟨⟨m, hf.cell hm⟩, fun i x hx v hv => hf.cell (hp i x hx v hv), ⟨t, p, hf.cell hs⟩, ⟨t', p', hf.cell hr⟩, fun i x hx v hv => hf.cell (hz i x hx v hv)⟩

end Go.Proofs.YtmhnailcmlomiaaGreatDoor
namespace Go.Proofs.YtmhnailcmlomiaaGreatDoor
open Go.ChangeShapes Go.WideShapes Go.ChangeAt Go.RowKit
set_option linter.unusedVariables false

theorem cell_at {cs : List Value} {r : Nat} {v : Value} (h : (cs.drop r).take 1 = [v]) : cs[r]? = some v := by
  have h1 : ((cs.drop r).take 1)[0]? = some v := by rw [h]; rfl
  simpa using h1

def numOf : Option Value → Nat
  | some (.int _ k) => k.toNat
  | _ => 0

theorem adr_length (b : Bool) (xs : List Nat) : (adr b xs).length = xs.length + 1 := by simp [adr, nums]
theorem adr_one (b : Bool) (xs : List Nat) : ∀ u ∈ adr b xs, u.oneCell' = true := by
  intro u hu
  rcases List.mem_cons.1 hu with rfl | hu
  · rfl
  · exact nums_one _ _ u hu
theorem adr_get {b : Bool} {xs : List Nat} {i x : Nat} (h : xs[i]? = some x) : (adr b xs)[1 + i]? = some (.int .u8 x) := by
  rw [Nat.add_comm]
  simpa [adr] using nums_get (k := .u8) h

set_option maxRecDepth 100000 in
theorem open_addr {H : Type} {enc : TypeId × Value → H} {w : World} {base base' : Nat} {spare : Nat → Bool} {held : Bool} {r : Reach} {v : Value} {d : DataW H} {ps : List MemPlace}
    (hval : Value.okWide Tryz.prog w r base' 30 v) (hd : DataW.Trod enc Tryz.prog w base spare held 30 v d ps) : ∃ b xs, v = .agg (adr b xs).toArray ∧ Bytes xs := by
  obtain ⟨cs, rfl, hsz⟩ := okWide_struct Tryz.underlying30 hval
  have h17 : Tryz.prog.cellsOf 30 = 17 := by kernel_rfl
  have h4 : Tryz.prog.cellsOf 4 = 1 := by kernel_rfl
  have h22 : Tryz.prog.cellsOf 28 = 16 := by kernel_rfl
  have h5 : Tryz.prog.cellsOf 5 = 1 := by kernel_rfl
  rw [h17] at hsz
  obtain ⟨fuel, hf⟩ := hd
  simp only [Value.cells] at hf
  obtain ⟨xs, n, _, _, hl, hxl, hx⟩ := DataW.trod_struct Tryz.underlying30 hf
  have e0 : DataW.trod enc Tryz.prog w base spare held n 4 ((cs.toList.drop 0).take (Tryz.prog.cellsOf 4)) = xs[0]? := hx 0 _ rfl
  have e1 : DataW.trod enc Tryz.prog w base spare held n 28 ((cs.toList.drop 1).take (Tryz.prog.cellsOf 28)) = xs[1]? := hx 1 _ rfl
  rw [h4] at e0
  rw [h22] at e1
  have hx2 : xs.length = 2 := hxl
  rw [List.getElem?_eq_getElem (by omega)] at e0
  obtain ⟨b, hb, _⟩ := DataW.trod_bool Tryz.underlying4 e0
  have hb0 := cell_at (cs := cs.toList) (r := 0) hb
  have hcell : ∀ j, j < 16 → ∃ k : Nat, cs.toList[j + 1]? = some (.int .u8 k) ∧ k < 256 := by
    intro j hj
    rw [List.getElem?_eq_getElem (by omega)] at e1
    obtain ⟨ys, m, _, _, hl1, hyl, hy⟩ := DataW.trod_array Tryz.underlying28 e1
    have ej := hy j hj
    rw [h5, List.getElem?_eq_getElem (by omega)] at ej
    obtain ⟨k, hk, _, hwf⟩ := DataW.trod_int Tryz.underlying5 ej
    have := cell_at hk
    rw [Nat.mul_one, List.getElem?_take, if_pos hj, List.getElem?_drop, Nat.add_comm] at this
    have hb := bounds_u8 hwf
    refine ⟨k.toNat, ?_, by omega⟩
    rw [this]
    simp
    omega
  refine ⟨b, (List.range 16).map fun j => (numOf cs.toList[j + 1]?), ?_, by simp, ?_⟩
  · congr 1
    apply Array.ext'
    apply List.ext_getElem?
    intro i
    rw [List.toList_toArray]
    cases i with
    | zero => rw [hb0]; rfl
    | succ j =>
      simp only [adr, List.getElem?_cons_succ, nums, List.map_map, List.getElem?_map]
      by_cases hj : j < 16
      · obtain ⟨k, hk, _⟩ := hcell j hj
        rw [hk, List.getElem?_range hj]
        simp only [Option.map_some, Function.comp_apply, hk]
        simp [numOf]
      · rw [List.getElem?_eq_none (by simp; omega), List.getElem?_eq_none (by simp; omega)]
        rfl
  · intro x hx
    obtain ⟨j, hj, rfl⟩ := List.mem_map.1 hx
    obtain ⟨k, hk, hlt⟩ := hcell j (List.mem_range.1 hj)
    rw [hk]
    simpa [numOf] using hlt

theorem nums_u8 {xs : List Nat} (h : ∀ x ∈ xs, x < 256) : nums .u8 xs = (xs.map UInt8.ofNat).map Extern.Stop.cell := by
  rw [nums, List.map_map]
  apply List.map_congr_left
  intro x hx
  have := h x hx
  simp [Extern.Stop.cell, Nat.mod_eq_of_lt this]

theorem ofNat_inj {xs ys : List Nat} (hx : ∀ x ∈ xs, x < 256) (hy : ∀ x ∈ ys, x < 256) : (xs.map UInt8.ofNat == ys.map UInt8.ofNat) = decide (xs = ys) := by
  have key : xs.map UInt8.ofNat = ys.map UInt8.ofNat → xs = ys := by
    intro h
    have h2 := congrArg (List.map UInt8.toNat) h
    rw [List.map_map, List.map_map] at h2
    have e : ∀ zs : List Nat, (∀ x ∈ zs, x < 256) → zs.map (UInt8.toNat ∘ UInt8.ofNat) = zs := by
      intro zs hz
      conv => rhs; rw [← List.map_id zs]
      apply List.map_congr_left
      intro x hx
      simp [Nat.mod_eq_of_lt (hz x hx)]
    rw [e xs hx, e ys hy] at h2
    exact h2
  by_cases h : xs = ys
  · subst h; simp
  · rw [decide_eq_false h]
    simp
    exact fun e => h (key e)

theorem adr_eq {b c : Bool} {xs ys : List Nat} (hx : Bytes xs) (hy : Bytes ys) (w : World) : Sem.run Tryz.prog (Op.equalIn 10000 30 (.agg (adr b xs).toArray) (.agg (adr c ys).toArray)) w = .ok (decide (b = c ∧ xs = ys)) w := by
  have hS : Tryz.prog.underlying 30 = some (.struct (Tryz.prog.fieldsOf 30)) := by kernel_rfl
  have hF : Tryz.prog.fieldsOf 30 = #[{ name := "IPv6", type := 4, offset := 0, embedded := false, tag := "", pkgPath := "", byteOffset := 0 }, { name := "Bytes", type := 28, offset := 1, embedded := false, tag := "", pkgPath := "", byteOffset := 1 }] := by kernel_rfl
  have ex : ∀ (b : Bool) (xs : List Nat), Bytes xs → (adr b xs).toArray.extract 1 (1 + 16) = ((xs.map UInt8.ofNat).map Extern.Stop.cell).toArray := by
    intro b xs hx
    rw [← nums_u8 hx.2]
    apply Array.ext'
    simp [adr]
    rw [List.take_of_length_le (by rw [nums_length, hx.1]; omega)]
  have hE : Sem.run Tryz.prog (Op.equalIn 9999 28 (.agg ((adr b xs).toArray.extract 1 (1 + 16))) (.agg ((adr c ys).toArray.extract 1 (1 + 16)))) w = .ok (decide (xs = ys)) w := by
    rw [ex b xs hx, ex c ys hy, run_equalIn_bytes w 9997 28 5 16 Tryz.underlying28 Tryz.underlying5 Tryz.sizeOf5 _ _ (by simpa using hx.1) (by simpa using hy.1), ofNat_inj hx.2 hy.2]
  have hB : Sem.run Tryz.prog (Op.equalIn 9999 4 (.bool b) (.bool c)) w = .ok (b == c) w := by rw [run_equalIn_bool' w 9998 4 b c Tryz.underlying4]
  have h0 : ∀ (b : Bool) (xs : List Nat), (adr b xs).toArray[0]? = some (.bool b) := fun b xs => rfl
  rw [show (10000 : Nat) = 9999 + 1 from rfl, run_equalIn_agg w 9999 30 _ _ hS Tryz.stoodInHeld30, hF]
  have e1 : ∀ (b : Bool) (xs : List Nat), (adr b xs).toArray.extract 1 17 = (List.take 16 (adr b xs).tail).toArray := fun b xs => by apply Array.ext'; simp [adr]
  rw [show 1 + 16 = 17 from rfl, e1 b xs, e1 c ys] at hE
  simp [Op.eqFields, part, Tryz.isAgg4, Tryz.isAgg28, Tryz.sizeOf28, h0, hB, hE]
  by_cases hxy : xs = ys <;> cases b <;> cases c <;> simp [hxy]

theorem load_block {P : Program} {w : World} {B o n : Nat} {cs : Array Value} {t : TypeId} {fr : Nat × Nat} {xs : Array Value} (h : w.heap[B]? = some (.cells cs t fr)) (hn : xs.size = n) (hx : ∀ j v, xs[j]? = some v → cs[o + j]? = some v) :
    Sem.run P (loadCellsFrom ⟨B, o, none⟩ 0 n #[]) w = .ok xs w := by
  have := run_loadCellsFrom_list P w ⟨B, o, none⟩ xs.toList n (by simpa using hn) (fun j v hv => by
    rw [Addr.add_lit, cell_of_row w B (o + j) cs t fr h]
    exact hx j v (by simpa using hv))
  simpa using this

theorem load_all {P : Program} {w : World} {B n : Nat} {cs : List Value} {t : TypeId} {fr : Nat × Nat} (h : w.heap[B]? = some (.cells cs.toArray t fr)) (hn : cs.length = n) : Sem.run P (loadCellsFrom ⟨B, 0, none⟩ 0 n #[]) w = .ok cs.toArray w :=
  load_block h (by simpa using hn) (fun j v hv => by simpa using hv)

theorem store_all {P : Program} {w : World} {B : Nat} {cs : Array Value} {t : TypeId} (xs : List Value) (h : w.heap[B]? = some (.cells cs t (0, 0))) (hl : xs.length = cs.size) (h1 : ∀ u ∈ xs, u.oneCell' = true) :
    ∃ y, Sem.run P (storeCells ⟨B, 0, none⟩ xs 0) w = .ok () y ∧ y.heap[B]? = some (.cells xs.toArray t (0, 0)) ∧ Fr (fun k => k = B) w y := by
  have hst := run_storeCells_at P B 0 t xs 0 cs w h (by omega) h1
  refine ⟨_, hst, ?_, Fr.setRow _ _ _ _ rfl⟩
  have e : (cs.toList.take (0 + 0) ++ xs ++ cs.toList.drop (0 + 0 + xs.length)).toArray = xs.toArray := by
    rw [hl]; simp
  rw [setRow_heap w B _ _ _ _ h, e]

theorem bit_one {x : Nat} (h : x < 256) : bits .and .u8 (x : Int) 1 = ((x % 2 : Nat) : Int) := by
  have h1 := bits_mask .u8 8 (by decide) wraps_u8 1 (by decide) (x : Int) (by omega) (by omega)
  have e : ((2 : Int) ^ 1 - 1) = 1 := by decide
  rw [e] at h1
  rw [h1]
  omega
theorem wrap_u16 (n : Int) (h₀ : 0 ≤ n) (h₁ : n < 2 ^ 16) : IntKind.u16.wrap n = n := by rw [IntKind.wrap_u16]; omega
theorem or_group {a b : Nat} (ha : a < 256) (hb : b < 256) : bits .or .u16 ((a * 256 : Nat) : Int) (b : Int) = ((a * 256 + b : Nat) : Int) := by
  have h := (bits_nat .u16 16 (by decide) wrap_u16 (a * 256) b (by omega) (by omega)).2
  rw [h]
  have : a * 256 ||| b = a * 256 + b := by
    have := Nat.two_pow_add_eq_or_of_lt (i := 8) (by omega : b < 2 ^ 8) a
    rw [show (2 : Nat) ^ 8 = 256 from rfl, Nat.mul_comm] at this
    rw [← this]
  rw [this]

theorem alloc2 (w : World) (o1 o2 : Obj) : ((w.alloc o1).alloc o2).heap[w.heap.size]? = some o1 ∧ ((w.alloc o1).alloc o2).heap[w.heap.size + 1]? = some o2 ∧ Fr No w ((w.alloc o1).alloc o2) := by
  refine ⟨(Fr.alloc No _ _).keep (heap_alloc_new w _), ?_, (Fr.alloc No _ _).trans (Fr.alloc No _ _)⟩
  have := heap_alloc_new (w.alloc o1) o2
  simpa using this
theorem alloc3 (w : World) (o1 o2 o3 : Obj) : (((w.alloc o1).alloc o2).alloc o3).heap[w.heap.size]? = some o1 ∧ (((w.alloc o1).alloc o2).alloc o3).heap[w.heap.size + 1]? = some o2 ∧ (((w.alloc o1).alloc o2).alloc o3).heap[w.heap.size + 1 + 1]? = some o3 ∧ Fr No w (((w.alloc o1).alloc o2).alloc o3) := by
  obtain ⟨h1, h2, h3⟩ := alloc2 w o1 o2
  refine ⟨(Fr.alloc No _ _).keep h1, (Fr.alloc No _ _).keep h2, ?_, h3.trans (Fr.alloc No _ _)⟩
  have := heap_alloc_new ((w.alloc o1).alloc o2) o3
  simpa using this
/-- Only draws. -/
theorem Fr.same {w w' : World} (h1 : w'.os = w.os) (h2 : w'.tape = w.tape) (h3 : w'.output = w.output) (h4 : w'.heap = w.heap) : Fr No w w' := ⟨h1, h2, h3, by rw [h4]; exact Nat.le_refl _, fun k _ _ => by rw [h4]⟩

/-- The program under a name of its own: the loaded program's rules do not reach it. -/
noncomputable def PD : Program := Tryz.prog

theorem at_prog {P : Program} (h : P = Tryz.prog) {f : Nat} {args : Array Value} {w : World} {R : Ending → World → Prop} (c : Calls Tryz.prog f args w R) : Calls P f args w R := by subst h; exact c

/-- A struct result that lies in a cell. -/
theorem results_agg {P : Program} {fn : Func} {n : Nat} {t : TypeId} (h : fn.results = #[.cell n t]) (tmps : Array Value) {w : World} {b k : Nat} {cs : Array Value} (hg : Sem.run P (isAgg t) w = .ok true w) (hz : Sem.run P (Go.sizeOf t) w = .ok k w)
    (hp : tmps.getD n undef = .pointer (some ⟨b, 0, none⟩)) (hl : Sem.run P (loadCellsFrom ⟨b, 0, none⟩ 0 k #[]) w = .ok cs w) :
    (results fn tmps).run P w = .ok (.agg cs) w := by
  simp only [results, h]
  simp [Sem.run_bind, Result.andThen, loadVar, loadCells] at hp ⊢
  simp [hp, asAddr, hg, hz, hl]
theorem results_agg_tmp {P : Program} {fn : Func} {n m : Nat} {t : TypeId} (h : fn.results = #[.cell n t, .tmp m]) (tmps : Array Value) {w : World} {b k : Nat} {cs : Array Value} (hg : Sem.run P (isAgg t) w = .ok true w) (hz : Sem.run P (Go.sizeOf t) w = .ok k w)
    (hp : tmps.getD n undef = .pointer (some ⟨b, 0, none⟩)) (hl : Sem.run P (loadCellsFrom ⟨b, 0, none⟩ 0 k #[]) w = .ok cs w) :
    (results fn tmps).run P w = .ok (.tuple #[.agg cs, tmps.getD m undef]) w := by
  simp only [results, h]
  simp [Sem.run_bind, Result.andThen, loadVar, loadCells] at hp ⊢
  simp [hp, asAddr, hg, hz, hl]

end Go.Proofs.YtmhnailcmlomiaaGreatDoor
namespace Go.Proofs.YtmhnailcmlomiaaGreatDoor
open Go.ChangeShapes Go.WideShapes Go.ChangeAt Go.RowKit
set_option linter.unusedVariables false

def bitsOf (b : Bool) : Int := if b then 128 else 32

theorem v4_bytes {a b c d : Nat} (ha : a < 256) (hb : b < 256) (hc : c < 256) (hd : d < 256) : Bytes [a, b, c, d, 0, 0, 0, 0, 0, 0, 0, 0, 0, 0, 0, 0] :=
  ⟨rfl, fun x hx => by simp at hx; omega⟩

/-- What V4 gives. -/
def v4Of (a b c d : Nat) : List Nat := [a, b, c, d, 0, 0, 0, 0, 0, 0, 0, 0, 0, 0, 0, 0]

set_option maxHeartbeats 1000000 in
set_option maxRecDepth 100000 in
theorem v4_any (a b c d : Nat) (w : World) :
    Calls Tryz.prog 78 #[.int .u8 a, .int .u8 b, .int .u8 c, .int .u8 d] w fun e w' => e = .returned (.agg (adr false (v4Of a b c d)).toArray) ∧ Fr No w w' := by
  go_enter Tryz.func78, Tryz.ntmps78
  go_wp2
  refine bodyPost_ret_by (results_agg rfl _ (b := w.heap.size) (k := 17) (cs := (adr false (v4Of a b c d)).toArray) (Tryz.isAgg30 _) (Tryz.sizeOf30 _) rfl (load_all (heap_alloc_new w _) rfl)) rfl ?_
  exact ⟨rfl, Fr.alloc _ _ _⟩

set_option maxHeartbeats 1000000 in
set_option maxRecDepth 100000 in
theorem v4_ref (a b c d : Nat) (w : World) :
    Calls Tryz.prog 63 #[.int .u8 a, .int .u8 b, .int .u8 c, .int .u8 d] w fun e w' => e = .returned (.agg (adr false (v4Of a b c d)).toArray) ∧ Fr No w w' := by
  go_enter Tryz.func63, Tryz.ntmps63
  go_wp2
  refine bodyPost_ret_by (results_agg rfl _ (b := w.heap.size) (k := 17) (cs := (adr false (v4Of a b c d)).toArray) (Tryz.isAgg30 _) (Tryz.sizeOf30 _) rfl (load_all (heap_alloc_new w _) rfl)) rfl ?_
  exact ⟨rfl, Fr.alloc _ _ _⟩

/-- An address as a letter. -/
theorem adr_letter (b : Bool) (xs : List Nat) (hx : Bytes xs) : ∃ A : Array Value, (adr b xs).toArray = A ∧ A[0]? = some (.bool b) ∧ A.size = 17 ∧ (∀ i x, xs[i]? = some x → A[1 + i]? = some (.int .u8 x)) :=
  ⟨_, rfl, rfl, by simp [adr_length, hx.1], fun i x h => by simpa using adr_get h⟩

set_option maxHeartbeats 1000000 in
set_option maxRecDepth 100000 in
theorem bitLen_A (b : Bool) (A : Array Value) (h0 : A[0]? = some (.bool b)) (w : World) :
    Calls Tryz.prog 84 #[.agg A] w fun e w' => e = .returned (.int .i64 (bitsOf b)) ∧ Fr No w w' := by
  cases b
  · go_enter Tryz.func84, Tryz.ntmps84
    go_wp2
    go_ret
    exact ⟨rfl, Fr.alloc _ _ _⟩
  · go_enter Tryz.func84, Tryz.ntmps84
    go_wp2
    go_ret
    exact ⟨rfl, Fr.alloc _ _ _⟩

set_option maxHeartbeats 1000000 in
set_option maxRecDepth 100000 in
theorem bitLen_R (b : Bool) (A : Array Value) (h0 : A[0]? = some (.bool b)) (w : World) :
    Calls Tryz.prog 57 #[.agg A] w fun e w' => e = .returned (.int .i64 (bitsOf b)) ∧ Fr No w w' := by
  cases b
  · go_enter Tryz.func57, Tryz.ntmps57
    go_wp2
    go_ret
    exact ⟨rfl, Fr.alloc _ _ _⟩
  · go_enter Tryz.func57, Tryz.ntmps57
    go_wp2
    go_ret
    exact ⟨rfl, Fr.alloc _ _ _⟩

/-- What Bit gives: bit i, or -1. -/
def bitA (b : Bool) (xs : List Nat) (i : Int) : Int := if i < 0 ∨ bitsOf b ≤ i then -1 else (((xs.getD (i.toNat / 8) 0) / 2 ^ (7 - i.toNat % 8)) % 2 : Nat)

end Go.Proofs.YtmhnailcmlomiaaGreatDoor
namespace Go.Proofs.YtmhnailcmlomiaaGreatDoor
open Go.ChangeShapes Go.WideShapes Go.ChangeAt Go.RowKit
set_option linter.unusedVariables false

/-- Whether an address is valid. -/
def validA (b : Bool) (xs : List Nat) : Bool := b || (xs.drop 4).all (fun x => x == 0)

theorem valid_four {xs : List Nat} (hx : Bytes xs) : ∃ x0 x1 x2 x3, xs[0]? = some x0 ∧ xs[1]? = some x1 ∧ xs[2]? = some x2 ∧ xs[3]? = some x3 ∧ Bytes (v4Of x0 x1 x2 x3) ∧ decide (xs = v4Of x0 x1 x2 x3) = validA false xs := by
  obtain ⟨hl, hb⟩ := hx
  match xs, hl with
  | [x0, x1, x2, x3, x4, x5, x6, x7, x8, x9, x10, x11, x12, x13, x14, x15], _ =>
    refine ⟨x0, x1, x2, x3, rfl, rfl, rfl, rfl, ?_, ?_⟩
    · refine v4_bytes ?_ ?_ ?_ ?_ <;> apply hb <;> simp
    · rw [Bool.eq_iff_iff]
      simp [validA, v4Of]

set_option maxHeartbeats 4000000 in
set_option maxRecDepth 100000 in
theorem valid_any (b : Bool) (xs : List Nat) (hx : Bytes xs) (w : World) :
    Calls Tryz.prog 44 #[.agg (adr b xs).toArray] w fun e w' => e = .returned (.bool (validA b xs)) ∧ Fr No w w' := by
  obtain ⟨x0, x1, x2, x3, h1, h2, h3, h4, hv4, hdec⟩ := valid_four hx
  have HE : Hid (∀ w, Sem.run Tryz.prog (Op.equalIn 10000 30 (.agg (adr b xs).toArray) (.agg (adr false (v4Of x0 x1 x2 x3)).toArray)) w = .ok (decide (b = false ∧ xs = v4Of x0 x1 x2 x3)) w) := fun w => adr_eq hx hv4 w
  obtain ⟨A, hA, h0, hsz, hj⟩ := adr_letter b xs hx
  obtain ⟨B, hB⟩ : ∃ B : Array Value, (adr false (v4Of x0 x1 x2 x3)).toArray = B := ⟨_, rfl⟩
  rw [hA] at HE ⊢
  rw [hB] at HE
  have HB := Lib.hid hB
  clear hA hB
  cases b
  · have hd : validA false xs = decide (xs = v4Of x0 x1 x2 x3) := hdec.symm
    rw [hd]
    have hE := HE.out
    simp only [true_and] at hE
    have a1 := hj _ _ h1
    have a2 := hj _ _ h2
    have a3 := hj _ _ h3
    have a4 := hj _ _ h4
    have hl1 : Sem.run Tryz.prog (loadCellsFrom ⟨w.heap.size, 0, none⟩ 0 17 #[]) (w.alloc (.cells A 30)) = .ok A (w.alloc (.cells A 30)) := load_block (heap_alloc_new w _) hsz (fun j v hv => by simpa using hv)
    have hbk := heap_alloc_new w (.cells A 30)
    have k0 : (w.alloc (.cells A 30)).cell? ⟨w.heap.size, 0, none⟩ = some (.bool false) := by rw [cell_of_row _ _ _ _ _ _ hbk]; exact h0
    have k1 : (w.alloc (.cells A 30)).cell? ⟨w.heap.size, 1, none⟩ = some (.int .u8 x0) := by rw [cell_of_row _ _ _ _ _ _ hbk]; exact a1
    have k2 : (w.alloc (.cells A 30)).cell? ⟨w.heap.size, 2, none⟩ = some (.int .u8 x1) := by rw [cell_of_row _ _ _ _ _ _ hbk]; exact a2
    have k3 : (w.alloc (.cells A 30)).cell? ⟨w.heap.size, 3, none⟩ = some (.int .u8 x2) := by rw [cell_of_row _ _ _ _ _ _ hbk]; exact a3
    have k4 : (w.alloc (.cells A 30)).cell? ⟨w.heap.size, 4, none⟩ = some (.int .u8 x3) := by rw [cell_of_row _ _ _ _ _ _ hbk]; exact a4
    have HF : Hid (Fr No w (w.alloc (.cells A 30))) := Fr.alloc No _ _
    have HBK := Lib.hid hbk
    clear HE hd hdec hj a1 a2 a3 a4 h0 h1 h2 h3 h4 hbk
    go_enter Tryz.func44, Tryz.ntmps44
    have q24 := Tryz.eqGuardType30
    have t3 := Tryz.underlying3
    have u3 := Tryz.runUnderlying3
    have g3 := Tryz.isAgg3
    have z3 := Tryz.sizeOf3
    have t4 := Tryz.underlying4
    have u4 := Tryz.runUnderlying4
    have g4 := Tryz.isAgg4
    have z4 := Tryz.sizeOf4
    have t5 := Tryz.underlying5
    have u5 := Tryz.runUnderlying5
    have g5 := Tryz.isAgg5
    have z5 := Tryz.sizeOf5
    have t28 := Tryz.underlying28
    have u28 := Tryz.runUnderlying28
    have g28 := Tryz.isAgg28
    have z28 := Tryz.sizeOf28
    have t30 := Tryz.underlying30
    have u30 := Tryz.runUnderlying30
    have g30 := Tryz.isAgg30
    have z30 := Tryz.sizeOf30
    have c78 := Tryz.call78
    have mixed : Tryz.prog.follows .mixedOrders = true := by kernel_rfl
    obtain ⟨k24, hk24⟩ : ∃ k, k = 17 := ⟨_, rfl⟩
    rw [← hk24] at z30
    have nk24 : ¬ k24 = 0 := by omega
    have HK30 := Lib.hid hk24
    have hP : Tryz.prog = PD := rfl
    rw [hP] at t3 u3 g3 z3 t4 u4 g4 z4 t5 u5 g5 z5 t28 u28 g28 z28 t30 u30 g30 z30 c78 mixed hl1 hE q24 ⊢
    have HP := Lib.hid hP.symm
    clear hP hk24
    rw [← HK30.out] at hl1
    go_wp2_with fail
    obtain ⟨bk, hbk⟩ : ∃ bk, w.heap.size = bk := ⟨_, rfl⟩
    rw [hbk] at hl1 k0 k1 k2 k3 k4 HBK ⊢
    clear hbk
    generalize w.alloc (.cells A 30) = w1 at hl1 k0 k1 k2 k3 k4 HF HBK ⊢
    clear hl1
    have hld : ∀ w', Fr No w1 w' → Sem.run PD (loadCellsFrom ⟨bk, 0, none⟩ 0 k24 #[]) w' = .ok A w' := fun w' hf => by rw [HK30.out]; exact load_block (hf.keep HBK.out) hsz (fun j v hv => by simpa using hv)
    have hl2 := hld _ (Fr.drew No w1)
    have HL := Lib.hid hld
    clear hld
    go_region_held3 (fun w' => Sem.run PD (loadCellsFrom ⟨bk, 0, none⟩ 0 k24 #[]) w' = .ok A w' ∧ w'.cell? ⟨bk, 0, none⟩ = some (.bool false) ∧ w'.cell? ⟨bk, 1, none⟩ = some (.int .u8 x0) ∧ w'.cell? ⟨bk, 2, none⟩ = some (.int .u8 x1) ∧ w'.cell? ⟨bk, 3, none⟩ = some (.int .u8 x2) ∧ w'.cell? ⟨bk, 4, none⟩ = some (.int .u8 x3)) (go_keep) (first | (go_at_call 78; refine (at_prog HP.out (v4_any x0 x1 x2 x3 _)).mono ?_; rintro e w2 ⟨rfl, hf⟩; rw [HB.out]; have hf2 := (Fr.drew No w1).trans hf; have l2 := HL.out _ hf2; have m0 := hf2.cell k0; have m1 := hf2.cell k1; have m2 := hf2.cell k2; have m3 := hf2.cell k3; have m4 := hf2.cell k4; have HF2 := Lib.hid (HF.out.trans hf2); clear hf hf2))
    go_wp2_with fail
    go_ret
    exact ⟨rfl, HF2.out⟩
  · have HV : Hid (validA true xs = true) := rfl
    rw [show validA true xs = true from rfl]
    clear hj HE
    have k0 : (w.alloc (.cells A 30)).cell? ⟨w.heap.size, 0, none⟩ = some (.bool true) := by rw [cell_of_row _ _ _ _ _ _ (heap_alloc_new w _)]; exact h0
    have HF : Hid (Fr No w (w.alloc (.cells A 30))) := Fr.alloc No _ _
    clear h0
    go_enter Tryz.func44, Tryz.ntmps44
    go_wp2_with fail
    obtain ⟨bk, hbk⟩ : ∃ bk, w.heap.size = bk := ⟨_, rfl⟩
    rw [hbk] at k0 ⊢
    clear hbk
    generalize w.alloc (.cells A 30) = w1 at k0 HF ⊢
    go_quiet (fail)
    go_wp2_with fail
    go_ret
    exact ⟨rfl, HF.out.trans (Fr.drewN _ _ _)⟩

end Go.Proofs.YtmhnailcmlomiaaGreatDoor
