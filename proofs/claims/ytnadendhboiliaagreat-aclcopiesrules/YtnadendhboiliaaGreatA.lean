/-
  What a frame of a call leaves alone; rows of values in memory; no walk.
  Conditions: as each theorem says.
  Addresses: how one that came in lies, when two are equal, whole blocks read and written at once; no walk.
  Conditions: as each theorem says.
  CONTRACTS of V4, BitLen, Bit and Valid, and of the reference's, over this seat's translation: what each call returns.
  Conditions: the argument is an address.
  CONTRACTS of the reference's Bit, of Valid and of the reference's Valid, over this seat's translation: what each call returns.
  Conditions: the argument is an address.
  CONTRACTS of V6 and groupsOf, over this seat's translation: what each call returns.
  Conditions: the groups lie in memory; the argument is an address.
  What Parse gives, on lists of bytes; no walk.
  Conditions: as each theorem says.
  What the reference's parsers give, on lists of bytes, and that it is what Parse gives; no walk.
  Conditions: as each theorem says.
-/
import Derived.Test.YtnadendhboiliaaGreatRows
import Derived.WalkKit
import Derived.ProofKit
import Derived.OpenShut
import Derived.Below
import Derived.Lib.Hide
import Derived.StillTailTactics
import Derived.Sort.Grow
import Derived.Deep.Draws
import Derived.Deep.AppendLies
import Derived.Deep.LoopGhost
import Derived.BigQuiet
import Derived.Laws.CopyOwn
import Derived.Laws.AppendOwnNone
import Derived.Lib.SliceRun
import Derived.Lib.AppendZeros
import Derived.ChangeArms
import Derived.Laws.StructEq
import Derived.Stop.BytesEq
import Derived.Laws.IdiomCopy
import Derived.Shelf.SlicesQ.Load
import Derived.WideShapes
import Derived.Laws.BitsLemmas
import Derived.Deep.RegionHeld3
import Derived.Lib.IndexMore
import Derived.Lib.ParseIntB
namespace Go.Proofs.YtnadendhboiliaaGreat
open Go.ChangeShapes Go.WideShapes Go.ChangeAt Go.RowKit
set_option linter.unusedVariables false

theorem ret_int {k : IntKind} {a b : Int} (h : a = b) : Ending.returned (.int k a) = .returned (.int k b) := by rw [h]

/-! ### frames -/

structure Fr (S : Nat → Prop) (w w' : World) : Prop where
  os : w'.os = w.os
  tape : w'.tape = w.tape
  output : w'.output = w.output
  size : w.heap.size ≤ w'.heap.size
  block : ∀ k, k < w.heap.size → ¬ S k → w'.heap[k]? = w.heap[k]?

def No : Nat → Prop := fun _ => False

theorem Fr.refl (S : Nat → Prop) (w : World) : Fr S w w := ⟨rfl, rfl, rfl, Nat.le_refl _, fun _ _ _ => rfl⟩
theorem Fr.trans {S : Nat → Prop} {a b c : World} (h : Fr S a b) (k : Fr S b c) : Fr S a c :=
  ⟨k.os.trans h.os, k.tape.trans h.tape, k.output.trans h.output, Nat.le_trans h.size k.size, fun i hi hs => (k.block i (Nat.lt_of_lt_of_le hi h.size) hs).trans (h.block i hi hs)⟩
theorem Fr.mono {S T : Nat → Prop} {a b : World} (h : Fr S a b) (hST : ∀ k, k < a.heap.size → S k → T k) : Fr T a b :=
  ⟨h.os, h.tape, h.output, h.size, fun k hk ht => h.block k hk (fun hs => ht (hST k hk hs))⟩
theorem Fr.no {S : Nat → Prop} {a b : World} (h : Fr No a b) : Fr S a b := h.mono fun _ _ h => h.elim
theorem Fr.drew (S : Nat → Prop) (w : World) : Fr S w w.drew := ⟨rfl, rfl, rfl, Nat.le_refl _, fun _ _ _ => rfl⟩
theorem Fr.drewN (S : Nat → Prop) (w : World) (q : Nat) : Fr S w (w.drewN q) := ⟨rfl, rfl, rfl, Nat.le_refl _, fun _ _ _ => rfl⟩
theorem Fr.alloc (S : Nat → Prop) (w : World) (o : Obj) : Fr S w (w.alloc o) := ⟨rfl, rfl, rfl, by simp, fun k hk _ => Below.heap_alloc _ _ _ hk⟩
theorem Fr.setCell (S : Nat → Prop) (w : World) (a : Addr) (u : Value) (h : S a.block) : Fr S w (w.setCell a u) :=
  ⟨rfl, rfl, rfl, by simp [World.setCell], fun k hk hs => Below.heap_setCell _ _ _ _ (fun e => hs (e ▸ h))⟩
theorem Fr.setRow (S : Nat → Prop) (w : World) (g : Nat) (cs : Array Value) (h : S g) : Fr S w (w.setRow g cs) :=
  ⟨rfl, rfl, rfl, by simp [World.setRow], fun k hk hs => setRow_other w g k cs (fun e => hs (e ▸ h))⟩
theorem Fr.grown {S : Nat → Prop} {w w' : World} {row : Option Nat} (hg : w.grownBy w' row) (h : ∀ k, row = some k → S k) : Fr S w w' :=
  ⟨hg.os, hg.tape, hg.output, hg.size, fun k hk hs => hg.block k hk (fun e => hs (h k e.symm))⟩
theorem Fr.below {S : Nat → Prop} {B : Nat} {w w' : World} (h : Fr S w w') (hS : ∀ k, S k → B ≤ k) (hB : B ≤ w.heap.size) : Below B w w' :=
  ⟨h.os, h.tape, h.output, h.size, fun k hk => h.block k (by omega) (fun hs => by have := hS k hs; omega)⟩
theorem Fr.belowNo {w w' : World} (h : Fr No w w') : Below w.heap.size w w' := h.below (fun _ h => h.elim) (Nat.le_refl _)
theorem Fr.ofBelow {w w' : World} (h : Below w.heap.size w w') : Fr No w w' := ⟨h.os, h.tape, h.output, h.size, fun k hk _ => h.block k hk⟩
theorem Fr.ofNew {S T : Nat → Prop} {a b c : World} (h : Fr S a b) (k : Fr T b c) (hT : ∀ k, T k → S k ∨ a.heap.size ≤ k) : Fr S a c :=
  ⟨k.os.trans h.os, k.tape.trans h.tape, k.output.trans h.output, Nat.le_trans h.size k.size, fun i hi hs => (k.block i (Nat.lt_of_lt_of_le hi h.size) (fun ht => by rcases hT i ht with h1 | h1; exact hs h1; omega)).trans (h.block i hi hs)⟩
theorem Fr.keep {w w' : World} (h : Fr No w w') {k : Nat} {o : Obj} (hk : w.heap[k]? = some o) : w'.heap[k]? = some o :=
  (h.block k (Array.getElem?_eq_some_iff.1 hk).1 (fun h => h)).trans hk
theorem Fr.cell {w w' : World} (h : Fr No w w') {a : Addr} {v : Value} (hc : w.cell? a = some v) : w'.cell? a = some v :=
  (World.cell?_of_block (h.block _ (World.block_lt_of_cell? w _ hc) (fun h => h))).trans hc

theorem info_parts {P : Program} {e : TypeId} {z : Option Value} {s b : Nat} (h : (P.info? e).map (fun i => (i.zero, i.size, i.bytes)) = some (z, s, b)) : ∃ i, P.info? e = some i ∧ i.zero = z ∧ i.size = s ∧ i.bytes = b := by
  cases hi : P.info? e with
  | none => rw [hi] at h; cases h
  | some i => rw [hi] at h; simp at h; exact ⟨i, rfl, h.1, h.2.1, h.2.2⟩

/-! ### rows -/

/-- Numbers as cells. -/
def nums (k : IntKind) (xs : List Nat) : List Value := xs.map fun (x : Nat) => Value.int k (x : Int)
/-- Strings as cells. -/
def strs (xs : List ByteArray) : List Value := xs.map Value.string

theorem nums_one (k : IntKind) (xs : List Nat) : ∀ u ∈ nums k xs, u.oneCell' = true := by
  intro u hu
  obtain ⟨n, _, rfl⟩ := List.mem_map.1 hu
  rfl
theorem nums_length (k : IntKind) (xs : List Nat) : (nums k xs).length = xs.length := by simp [nums]
theorem strs_length (xs : List ByteArray) : (strs xs).length = xs.length := by simp [strs]
theorem nums_append (k : IntKind) (xs ys : List Nat) : nums k (xs ++ ys) = nums k xs ++ nums k ys := by simp [nums]
theorem strs_append (xs ys : List ByteArray) : strs (xs ++ ys) = strs xs ++ strs ys := by simp [strs]
theorem nums_get {k : IntKind} {xs : List Nat} {i x : Nat} (h : xs[i]? = some x) : (nums k xs)[i]? = some (.int k x) := by simp [nums, h]
theorem strs_get {xs : List ByteArray} {i : Nat} {x : ByteArray} (h : xs[i]? = some x) : (strs xs)[i]? = some (.string x) := by simp [strs, h]

/-- A slice whose elements are these cells, wherever it lies. -/
def At (w : World) (a : Option Addr) (vs : List Value) : Prop := ∀ (i : Nat) (v : Value), vs[i]? = some v → ∃ b off, a = some ⟨b, off, none⟩ ∧ w.cell? ⟨b, off + i, none⟩ = some v

theorem At.keep {w w' : World} {a : Option Addr} {xs : List Value} (h : At w a xs) (hk : ∀ ad, a = some ad → ad.block < w.heap.size → w'.heap[ad.block]? = w.heap[ad.block]?) : At w' a xs := by
  intro i x hx
  obtain ⟨b, off, rfl, hc⟩ := h i x hx
  have hb : b < w.heap.size := World.block_lt_of_cell? w _ hc
  exact ⟨b, off, rfl, (World.cell?_of_block (a := ⟨b, off + i, none⟩) (hk ⟨b, off, none⟩ rfl hb)).trans hc⟩
theorem At.fr {S : Nat → Prop} {w w' : World} {a : Option Addr} {xs : List Value} (h : At w a xs) (hf : Fr S w w') (hS : ∀ ad, a = some ad → ¬ S ad.block) : At w' a xs :=
  h.keep fun ad ha hb => hf.block _ hb (hS ad ha)
theorem At.frNo {w w' : World} {a : Option Addr} {xs : List Value} (h : At w a xs) (hf : Fr No w w') : At w' a xs := h.fr hf fun _ _ h => h
theorem At.nil (w : World) (a : Option Addr) : At w a [] := fun i x hx => by simp at hx
theorem At.take {w : World} {a : Option Addr} {xs : List Value} (h : At w a xs) (k : Nat) : At w a (xs.take k) := by
  intro i x hx
  rw [List.getElem?_take] at hx
  split at hx
  · exact h i x hx
  · cases hx
theorem At.drop {w : World} {b off : Nat} {xs : List Value} (h : At w (some ⟨b, off, none⟩) xs) (k : Nat) : At w (some ⟨b, off + k, none⟩) (xs.drop k) := by
  intro i x hx
  rw [List.getElem?_drop] at hx
  obtain ⟨b', off', he, hc⟩ := h (k + i) x hx
  cases he
  exact ⟨b, off + k, rfl, by rw [Nat.add_assoc]; exact hc⟩
theorem At.lt {w : World} {ad : Addr} {xs : List Value} (h : At w (some ad) xs) (hn : 0 < xs.length) : ad.block < w.heap.size := by
  obtain ⟨b, off, he, hc⟩ := h 0 xs[0] (List.getElem?_eq_getElem hn)
  cases he
  exact World.block_lt_of_cell? w _ hc
theorem At.block {w : World} {g : Nat} {xs : List Value} {t : TypeId} {fr : Nat × Nat} (h : w.heap[g]? = some (.cells xs.toArray t fr)) : At w (some ⟨g, 0, none⟩) xs := by
  intro i x hx
  refine ⟨g, 0, rfl, ?_⟩
  rw [Nat.zero_add, cell_of_row w g i _ _ _ h]
  simpa using hx
theorem At.own {w : World} {base n cap e : Nat} {a : Option Addr} {xs : List Value} (h : w.ownsRow base e 1 (.slice a n cap) n xs) : At w a xs := by
  intro i x hx
  have hl := h.1
  have hi : i < xs.length := (List.getElem?_eq_some_iff.1 hx).1
  obtain ⟨g, cap', hv, _⟩ := h.form (by omega)
  cases hv
  refine ⟨g, 0, rfl, ?_⟩
  rw [Nat.zero_add, h.cellAt i (by omega)]
  exact hx
theorem At.src {w : World} {ad : Addr} {xs : List Value} (h : At w (some ad) xs) : ∀ (j : Nat) (u : Value), xs[j]? = some u → w.cell? (ad.add j) = some u := by
  intro j u hj
  obtain ⟨b, off, he, hc⟩ := h j u hj
  cases he
  rw [Go.WideShapes.add_plain]
  exact hc

theorem row_keep {w w' : World} {e : TypeId} {K : Nat} {sv : Value} {xs : List Value} {m : Nat} {base : Nat} (h : w.ownsRow base e K sv m xs) (hw : ∀ k, sv.ownBlock = some k → w'.heap[k]? = w.heap[k]?) : w'.ownsRow base e K sv m xs := by
  refine ⟨h.1, ?_⟩
  rcases h.2 with h1 | ⟨g, cap, cur, hv, hb', hg, hr⟩
  · exact .inl h1
  · exact .inr ⟨g, cap, cur, hv, hb', (hw g (by rw [hv]; rfl)).trans hg, hr⟩
theorem row_frNo {w w' : World} {e : TypeId} {K : Nat} {sv : Value} {xs : List Value} {m : Nat} {base : Nat} (h : w.ownsRow base e K sv m xs) (hf : Fr No w w') : w'.ownsRow base e K sv m xs :=
  row_keep h fun k hk => hf.block k (h.lt k hk).2 (fun h => h)
theorem row_any {w : World} {e : TypeId} {K : Nat} {sv : Value} {xs : List Value} {m : Nat} {base : Nat} (h : w.ownsRow base e K sv m xs) : ∃ a cap, sv = .slice a m cap ∧ m ≤ cap ∧ (a = none → cap = 0) ∧ (∀ ad, a = some ad → base ≤ ad.block) := by
  rcases h.2 with ⟨hv, hn'⟩ | ⟨g, cap, cur, hv, hb, _, hm, _⟩
  · exact ⟨none, 0, by rw [hv, hn'], by omega, fun _ => rfl, fun ad h => by cases h⟩
  · exact ⟨_, cap, hv, hm, (fun h => by cases h), fun ad h => by cases h; exact hb⟩

/-! ### addresses -/

/-- The cells of an address. -/
def adr (b : Bool) (xs : List Nat) : List Value := .bool b :: nums .u8 xs
/-- Sixteen bytes. -/
def Bytes (xs : List Nat) : Prop := xs.length = 16 ∧ ∀ x ∈ xs, x < 256

end Go.Proofs.YtnadendhboiliaaGreat
namespace Go.Proofs.YtnadendhboiliaaGreat
open Go.ChangeShapes Go.WideShapes Go.ChangeAt Go.RowKit
set_option linter.unusedVariables false

theorem cell_at {cs : List Value} {r : Nat} {v : Value} (h : (cs.drop r).take 1 = [v]) : cs[r]? = some v := by
  have h1 : ((cs.drop r).take 1)[0]? = some v := by rw [h]; rfl
  simpa using h1

def numOf : Option Value → Nat
  | some (.int _ k) => k.toNat
  | _ => 0

theorem adr_length (b : Bool) (xs : List Nat) : (adr b xs).length = xs.length + 1 := by simp [adr, nums]
theorem adr_one (b : Bool) (xs : List Nat) : ∀ u ∈ adr b xs, u.oneCell' = true := by
  intro u hu
  rcases List.mem_cons.1 hu with rfl | hu
  · rfl
  · exact nums_one _ _ u hu
theorem adr_get {b : Bool} {xs : List Nat} {i x : Nat} (h : xs[i]? = some x) : (adr b xs)[1 + i]? = some (.int .u8 x) := by
  rw [Nat.add_comm]
  simpa [adr] using nums_get (k := .u8) h

set_option maxRecDepth 100000 in
theorem open_addr {H : Type} {enc : TypeId × Value → H} {w : World} {base base' : Nat} {spare : Nat → Bool} {held : Bool} {r : Reach} {v : Value} {d : DataW H} {ps : List MemPlace}
    (hval : Value.okWide Tryz.prog w r base' 25 v) (hd : DataW.Trod enc Tryz.prog w base spare held 25 v d ps) : ∃ b xs, v = .agg (adr b xs).toArray ∧ Bytes xs := by
  obtain ⟨cs, rfl, hsz⟩ := okWide_struct Tryz.underlying25 hval
  have h17 : Tryz.prog.cellsOf 25 = 17 := by kernel_rfl
  have h4 : Tryz.prog.cellsOf 4 = 1 := by kernel_rfl
  have h22 : Tryz.prog.cellsOf 23 = 16 := by kernel_rfl
  have h5 : Tryz.prog.cellsOf 5 = 1 := by kernel_rfl
  rw [h17] at hsz
  obtain ⟨fuel, hf⟩ := hd
  simp only [Value.cells] at hf
  obtain ⟨xs, n, _, _, hl, hxl, hx⟩ := DataW.trod_struct Tryz.underlying25 hf
  have e0 : DataW.trod enc Tryz.prog w base spare held n 4 ((cs.toList.drop 0).take (Tryz.prog.cellsOf 4)) = xs[0]? := hx 0 _ rfl
  have e1 : DataW.trod enc Tryz.prog w base spare held n 23 ((cs.toList.drop 1).take (Tryz.prog.cellsOf 23)) = xs[1]? := hx 1 _ rfl
  rw [h4] at e0
  rw [h22] at e1
  have hx2 : xs.length = 2 := hxl
  rw [List.getElem?_eq_getElem (by omega)] at e0
  obtain ⟨b, hb, _⟩ := DataW.trod_bool Tryz.underlying4 e0
  have hb0 := cell_at (cs := cs.toList) (r := 0) hb
  have hcell : ∀ j, j < 16 → ∃ k : Nat, cs.toList[j + 1]? = some (.int .u8 k) ∧ k < 256 := by
    intro j hj
    rw [List.getElem?_eq_getElem (by omega)] at e1
    obtain ⟨ys, m, _, _, hl1, hyl, hy⟩ := DataW.trod_array Tryz.underlying23 e1
    have ej := hy j hj
    rw [h5, List.getElem?_eq_getElem (by omega)] at ej
    obtain ⟨k, hk, _, hwf⟩ := DataW.trod_int Tryz.underlying5 ej
    have := cell_at hk
    rw [Nat.mul_one, List.getElem?_take, if_pos hj, List.getElem?_drop, Nat.add_comm] at this
    have hb := bounds_u8 hwf
    refine ⟨k.toNat, ?_, by omega⟩
    rw [this]
    simp
    omega
  refine ⟨b, (List.range 16).map fun j => (numOf cs.toList[j + 1]?), ?_, by simp, ?_⟩
  · congr 1
    apply Array.ext'
    apply List.ext_getElem?
    intro i
    rw [List.toList_toArray]
    cases i with
    | zero => rw [hb0]; rfl
    | succ j =>
      simp only [adr, List.getElem?_cons_succ, nums, List.map_map, List.getElem?_map]
      by_cases hj : j < 16
      · obtain ⟨k, hk, _⟩ := hcell j hj
        rw [hk, List.getElem?_range hj]
        simp only [Option.map_some, Function.comp_apply, hk]
        simp [numOf]
      · rw [List.getElem?_eq_none (by simp; omega), List.getElem?_eq_none (by simp; omega)]
        rfl
  · intro x hx
    obtain ⟨j, hj, rfl⟩ := List.mem_map.1 hx
    obtain ⟨k, hk, hlt⟩ := hcell j (List.mem_range.1 hj)
    rw [hk]
    simpa [numOf] using hlt

theorem nums_u8 {xs : List Nat} (h : ∀ x ∈ xs, x < 256) : nums .u8 xs = (xs.map UInt8.ofNat).map Extern.Stop.cell := by
  rw [nums, List.map_map]
  apply List.map_congr_left
  intro x hx
  have := h x hx
  simp [Extern.Stop.cell, Nat.mod_eq_of_lt this]

theorem ofNat_inj {xs ys : List Nat} (hx : ∀ x ∈ xs, x < 256) (hy : ∀ x ∈ ys, x < 256) : (xs.map UInt8.ofNat == ys.map UInt8.ofNat) = decide (xs = ys) := by
  have key : xs.map UInt8.ofNat = ys.map UInt8.ofNat → xs = ys := by
    intro h
    have h2 := congrArg (List.map UInt8.toNat) h
    rw [List.map_map, List.map_map] at h2
    have e : ∀ zs : List Nat, (∀ x ∈ zs, x < 256) → zs.map (UInt8.toNat ∘ UInt8.ofNat) = zs := by
      intro zs hz
      conv => rhs; rw [← List.map_id zs]
      apply List.map_congr_left
      intro x hx
      simp [Nat.mod_eq_of_lt (hz x hx)]
    rw [e xs hx, e ys hy] at h2
    exact h2
  by_cases h : xs = ys
  · subst h; simp
  · rw [decide_eq_false h]
    simp
    exact fun e => h (key e)

theorem adr_eq {b c : Bool} {xs ys : List Nat} (hx : Bytes xs) (hy : Bytes ys) (w : World) : Sem.run Tryz.prog (Op.equalIn 10000 25 (.agg (adr b xs).toArray) (.agg (adr c ys).toArray)) w = .ok (decide (b = c ∧ xs = ys)) w := by
  have hS : Tryz.prog.underlying 25 = some (.struct (Tryz.prog.fieldsOf 25)) := by kernel_rfl
  have hF : Tryz.prog.fieldsOf 25 = #[{ name := "IPv6", type := 4, offset := 0, embedded := false, tag := "", pkgPath := "", byteOffset := 0 }, { name := "Bytes", type := 23, offset := 1, embedded := false, tag := "", pkgPath := "", byteOffset := 1 }] := by kernel_rfl
  have ex : ∀ (b : Bool) (xs : List Nat), Bytes xs → (adr b xs).toArray.extract 1 (1 + 16) = ((xs.map UInt8.ofNat).map Extern.Stop.cell).toArray := by
    intro b xs hx
    rw [← nums_u8 hx.2]
    apply Array.ext'
    simp [adr]
    rw [List.take_of_length_le (by rw [nums_length, hx.1]; omega)]
  have hE : Sem.run Tryz.prog (Op.equalIn 9999 23 (.agg ((adr b xs).toArray.extract 1 (1 + 16))) (.agg ((adr c ys).toArray.extract 1 (1 + 16)))) w = .ok (decide (xs = ys)) w := by
    rw [ex b xs hx, ex c ys hy, run_equalIn_bytes w 9997 23 5 16 Tryz.underlying23 Tryz.underlying5 Tryz.sizeOf5 _ _ (by simpa using hx.1) (by simpa using hy.1), ofNat_inj hx.2 hy.2]
  have hB : Sem.run Tryz.prog (Op.equalIn 9999 4 (.bool b) (.bool c)) w = .ok (b == c) w := by rw [run_equalIn_bool' w 9998 4 b c Tryz.underlying4]
  have h0 : ∀ (b : Bool) (xs : List Nat), (adr b xs).toArray[0]? = some (.bool b) := fun b xs => rfl
  rw [show (10000 : Nat) = 9999 + 1 from rfl, run_equalIn_agg w 9999 25 _ _ hS Tryz.stoodInHeld25, hF]
  have e1 : ∀ (b : Bool) (xs : List Nat), (adr b xs).toArray.extract 1 17 = (List.take 16 (adr b xs).tail).toArray := fun b xs => by apply Array.ext'; simp [adr]
  rw [show 1 + 16 = 17 from rfl, e1 b xs, e1 c ys] at hE
  simp [Op.eqFields, part, Tryz.isAgg4, Tryz.isAgg23, Tryz.sizeOf23, h0, hB, hE]
  by_cases hxy : xs = ys <;> cases b <;> cases c <;> simp [hxy]

theorem load_block {P : Program} {w : World} {B o n : Nat} {cs : Array Value} {t : TypeId} {fr : Nat × Nat} {xs : Array Value} (h : w.heap[B]? = some (.cells cs t fr)) (hn : xs.size = n) (hx : ∀ j v, xs[j]? = some v → cs[o + j]? = some v) :
    Sem.run P (loadCellsFrom ⟨B, o, none⟩ 0 n #[]) w = .ok xs w := by
  have := run_loadCellsFrom_list P w ⟨B, o, none⟩ xs.toList n (by simpa using hn) (fun j v hv => by
    rw [Addr.add_lit, cell_of_row w B (o + j) cs t fr h]
    exact hx j v (by simpa using hv))
  simpa using this

theorem load_all {P : Program} {w : World} {B n : Nat} {cs : List Value} {t : TypeId} {fr : Nat × Nat} (h : w.heap[B]? = some (.cells cs.toArray t fr)) (hn : cs.length = n) : Sem.run P (loadCellsFrom ⟨B, 0, none⟩ 0 n #[]) w = .ok cs.toArray w :=
  load_block h (by simpa using hn) (fun j v hv => by simpa using hv)

theorem store_all {P : Program} {w : World} {B : Nat} {cs : Array Value} {t : TypeId} (xs : List Value) (h : w.heap[B]? = some (.cells cs t (0, 0))) (hl : xs.length = cs.size) (h1 : ∀ u ∈ xs, u.oneCell' = true) :
    ∃ y, Sem.run P (storeCells ⟨B, 0, none⟩ xs 0) w = .ok () y ∧ y.heap[B]? = some (.cells xs.toArray t (0, 0)) ∧ Fr (fun k => k = B) w y := by
  have hst := run_storeCells_at P B 0 t xs 0 cs w h (by omega) h1
  refine ⟨_, hst, ?_, Fr.setRow _ _ _ _ rfl⟩
  have e : (cs.toList.take (0 + 0) ++ xs ++ cs.toList.drop (0 + 0 + xs.length)).toArray = xs.toArray := by
    rw [hl]; simp
  rw [setRow_heap w B _ _ _ _ h, e]

theorem bit_one {x : Nat} (h : x < 256) : bits .and .u8 (x : Int) 1 = ((x % 2 : Nat) : Int) := by
  have h1 := bits_mask .u8 8 (by decide) wraps_u8 1 (by decide) (x : Int) (by omega) (by omega)
  have e : ((2 : Int) ^ 1 - 1) = 1 := by decide
  rw [e] at h1
  rw [h1]
  omega
theorem wrap_u16 (n : Int) (h₀ : 0 ≤ n) (h₁ : n < 2 ^ 16) : IntKind.u16.wrap n = n := by rw [IntKind.wrap_u16]; omega
theorem or_group {a b : Nat} (ha : a < 256) (hb : b < 256) : bits .or .u16 ((a * 256 : Nat) : Int) (b : Int) = ((a * 256 + b : Nat) : Int) := by
  have h := (bits_nat .u16 16 (by decide) wrap_u16 (a * 256) b (by omega) (by omega)).2
  rw [h]
  have : a * 256 ||| b = a * 256 + b := by
    have := Nat.two_pow_add_eq_or_of_lt (i := 8) (by omega : b < 2 ^ 8) a
    rw [show (2 : Nat) ^ 8 = 256 from rfl, Nat.mul_comm] at this
    rw [← this]
  rw [this]

theorem alloc2 (w : World) (o1 o2 : Obj) : ((w.alloc o1).alloc o2).heap[w.heap.size]? = some o1 ∧ ((w.alloc o1).alloc o2).heap[w.heap.size + 1]? = some o2 ∧ Fr No w ((w.alloc o1).alloc o2) := by
  refine ⟨(Fr.alloc No _ _).keep (heap_alloc_new w _), ?_, (Fr.alloc No _ _).trans (Fr.alloc No _ _)⟩
  have := heap_alloc_new (w.alloc o1) o2
  simpa using this
theorem alloc3 (w : World) (o1 o2 o3 : Obj) : (((w.alloc o1).alloc o2).alloc o3).heap[w.heap.size]? = some o1 ∧ (((w.alloc o1).alloc o2).alloc o3).heap[w.heap.size + 1]? = some o2 ∧ (((w.alloc o1).alloc o2).alloc o3).heap[w.heap.size + 1 + 1]? = some o3 ∧ Fr No w (((w.alloc o1).alloc o2).alloc o3) := by
  obtain ⟨h1, h2, h3⟩ := alloc2 w o1 o2
  refine ⟨(Fr.alloc No _ _).keep h1, (Fr.alloc No _ _).keep h2, ?_, h3.trans (Fr.alloc No _ _)⟩
  have := heap_alloc_new ((w.alloc o1).alloc o2) o3
  simpa using this
/-- Only draws. -/
theorem Fr.same {w w' : World} (h1 : w'.os = w.os) (h2 : w'.tape = w.tape) (h3 : w'.output = w.output) (h4 : w'.heap = w.heap) : Fr No w w' := ⟨h1, h2, h3, by rw [h4]; exact Nat.le_refl _, fun k _ _ => by rw [h4]⟩

/-- The program under a name of its own: the loaded program's rules do not reach it. -/
noncomputable def PD : Program := Tryz.prog

theorem at_prog {P : Program} (h : P = Tryz.prog) {f : Nat} {args : Array Value} {w : World} {R : Ending → World → Prop} (c : Calls Tryz.prog f args w R) : Calls P f args w R := by subst h; exact c

/-- A struct result that lies in a cell. -/
theorem results_agg {P : Program} {fn : Func} {n : Nat} {t : TypeId} (h : fn.results = #[.cell n t]) (tmps : Array Value) {w : World} {b k : Nat} {cs : Array Value} (hg : Sem.run P (isAgg t) w = .ok true w) (hz : Sem.run P (Go.sizeOf t) w = .ok k w)
    (hp : tmps.getD n undef = .pointer (some ⟨b, 0, none⟩)) (hl : Sem.run P (loadCellsFrom ⟨b, 0, none⟩ 0 k #[]) w = .ok cs w) :
    (results fn tmps).run P w = .ok (.agg cs) w := by
  simp only [results, h]
  simp [Sem.run_bind, Result.andThen, loadVar, loadCells] at hp ⊢
  simp [hp, asAddr, hg, hz, hl]
theorem results_agg_tmp {P : Program} {fn : Func} {n m : Nat} {t : TypeId} (h : fn.results = #[.cell n t, .tmp m]) (tmps : Array Value) {w : World} {b k : Nat} {cs : Array Value} (hg : Sem.run P (isAgg t) w = .ok true w) (hz : Sem.run P (Go.sizeOf t) w = .ok k w)
    (hp : tmps.getD n undef = .pointer (some ⟨b, 0, none⟩)) (hl : Sem.run P (loadCellsFrom ⟨b, 0, none⟩ 0 k #[]) w = .ok cs w) :
    (results fn tmps).run P w = .ok (.tuple #[.agg cs, tmps.getD m undef]) w := by
  simp only [results, h]
  simp [Sem.run_bind, Result.andThen, loadVar, loadCells] at hp ⊢
  simp [hp, asAddr, hg, hz, hl]

end Go.Proofs.YtnadendhboiliaaGreat
namespace Go.Proofs.YtnadendhboiliaaGreat
open Go.ChangeShapes Go.WideShapes Go.ChangeAt Go.RowKit
set_option linter.unusedVariables false

def bitsOf (b : Bool) : Int := if b then 128 else 32

theorem v4_bytes {a b c d : Nat} (ha : a < 256) (hb : b < 256) (hc : c < 256) (hd : d < 256) : Bytes [a, b, c, d, 0, 0, 0, 0, 0, 0, 0, 0, 0, 0, 0, 0] :=
  ⟨rfl, fun x hx => by simp at hx; omega⟩

/-- What V4 gives. -/
def v4Of (a b c d : Nat) : List Nat := [a, b, c, d, 0, 0, 0, 0, 0, 0, 0, 0, 0, 0, 0, 0]

set_option maxHeartbeats 1000000 in
set_option maxRecDepth 100000 in
theorem v4_any (a b c d : Nat) (w : World) :
    Calls Tryz.prog 75 #[.int .u8 a, .int .u8 b, .int .u8 c, .int .u8 d] w fun e w' => e = .returned (.agg (adr false (v4Of a b c d)).toArray) ∧ Fr No w w' := by
  go_enter Tryz.func75, Tryz.ntmps75
  go_wp2
  refine bodyPost_ret_by (results_agg rfl _ (b := w.heap.size) (k := 17) (cs := (adr false (v4Of a b c d)).toArray) (Tryz.isAgg25 _) (Tryz.sizeOf25 _) rfl (load_all (heap_alloc_new w _) rfl)) rfl ?_
  exact ⟨rfl, Fr.alloc _ _ _⟩

set_option maxHeartbeats 1000000 in
set_option maxRecDepth 100000 in
theorem v4_ref (a b c d : Nat) (w : World) :
    Calls Tryz.prog 27 #[.int .u8 a, .int .u8 b, .int .u8 c, .int .u8 d] w fun e w' => e = .returned (.agg (adr false (v4Of a b c d)).toArray) ∧ Fr No w w' := by
  go_enter Tryz.func27, Tryz.ntmps27
  go_wp2
  refine bodyPost_ret_by (results_agg rfl _ (b := w.heap.size) (k := 17) (cs := (adr false (v4Of a b c d)).toArray) (Tryz.isAgg25 _) (Tryz.sizeOf25 _) rfl (load_all (heap_alloc_new w _) rfl)) rfl ?_
  exact ⟨rfl, Fr.alloc _ _ _⟩

/-- An address as a letter. -/
theorem adr_letter (b : Bool) (xs : List Nat) (hx : Bytes xs) : ∃ A : Array Value, (adr b xs).toArray = A ∧ A[0]? = some (.bool b) ∧ A.size = 17 ∧ (∀ i x, xs[i]? = some x → A[1 + i]? = some (.int .u8 x)) :=
  ⟨_, rfl, rfl, by simp [adr_length, hx.1], fun i x h => by simpa using adr_get h⟩

set_option maxHeartbeats 1000000 in
set_option maxRecDepth 100000 in
theorem bitLen_A (b : Bool) (A : Array Value) (h0 : A[0]? = some (.bool b)) (w : World) :
    Calls Tryz.prog 91 #[.agg A] w fun e w' => e = .returned (.int .i64 (bitsOf b)) ∧ Fr No w w' := by
  cases b
  · go_enter Tryz.func91, Tryz.ntmps91
    go_wp2
    go_ret
    exact ⟨rfl, Fr.alloc _ _ _⟩
  · go_enter Tryz.func91, Tryz.ntmps91
    go_wp2
    go_ret
    exact ⟨rfl, Fr.alloc _ _ _⟩

set_option maxHeartbeats 1000000 in
set_option maxRecDepth 100000 in
theorem bitLen_R (b : Bool) (A : Array Value) (h0 : A[0]? = some (.bool b)) (w : World) :
    Calls Tryz.prog 60 #[.agg A] w fun e w' => e = .returned (.int .i64 (bitsOf b)) ∧ Fr No w w' := by
  cases b
  · go_enter Tryz.func60, Tryz.ntmps60
    go_wp2
    go_ret
    exact ⟨rfl, Fr.alloc _ _ _⟩
  · go_enter Tryz.func60, Tryz.ntmps60
    go_wp2
    go_ret
    exact ⟨rfl, Fr.alloc _ _ _⟩

end Go.Proofs.YtnadendhboiliaaGreat
namespace Go.Proofs.YtnadendhboiliaaGreat
open Go.ChangeShapes Go.WideShapes Go.ChangeAt Go.RowKit
set_option linter.unusedVariables false

/-- Whether an address is valid. -/
def validA (b : Bool) (xs : List Nat) : Bool := b || (xs.drop 4).all (fun x => x == 0)

theorem valid_four {xs : List Nat} (hx : Bytes xs) : ∃ x0 x1 x2 x3, xs[0]? = some x0 ∧ xs[1]? = some x1 ∧ xs[2]? = some x2 ∧ xs[3]? = some x3 ∧ Bytes (v4Of x0 x1 x2 x3) ∧ decide (xs = v4Of x0 x1 x2 x3) = validA false xs := by
  obtain ⟨hl, hb⟩ := hx
  match xs, hl with
  | [x0, x1, x2, x3, x4, x5, x6, x7, x8, x9, x10, x11, x12, x13, x14, x15], _ =>
    refine ⟨x0, x1, x2, x3, rfl, rfl, rfl, rfl, ?_, ?_⟩
    · refine v4_bytes ?_ ?_ ?_ ?_ <;> apply hb <;> simp
    · rw [Bool.eq_iff_iff]
      simp [validA, v4Of]

set_option maxHeartbeats 4000000 in
set_option maxRecDepth 100000 in
theorem valid_any (b : Bool) (xs : List Nat) (hx : Bytes xs) (w : World) :
    Calls Tryz.prog 53 #[.agg (adr b xs).toArray] w fun e w' => e = .returned (.bool (validA b xs)) ∧ Fr No w w' := by
  obtain ⟨x0, x1, x2, x3, h1, h2, h3, h4, hv4, hdec⟩ := valid_four hx
  have HE : Hid (∀ w, Sem.run Tryz.prog (Op.equalIn 10000 25 (.agg (adr b xs).toArray) (.agg (adr false (v4Of x0 x1 x2 x3)).toArray)) w = .ok (decide (b = false ∧ xs = v4Of x0 x1 x2 x3)) w) := fun w => adr_eq hx hv4 w
  obtain ⟨A, hA, h0, hsz, hj⟩ := adr_letter b xs hx
  obtain ⟨B, hB⟩ : ∃ B : Array Value, (adr false (v4Of x0 x1 x2 x3)).toArray = B := ⟨_, rfl⟩
  rw [hA] at HE ⊢
  rw [hB] at HE
  have HB := Lib.hid hB
  clear hA hB
  cases b
  · have hd : validA false xs = decide (xs = v4Of x0 x1 x2 x3) := hdec.symm
    rw [hd]
    have hE := HE.out
    simp only [true_and] at hE
    have a1 := hj _ _ h1
    have a2 := hj _ _ h2
    have a3 := hj _ _ h3
    have a4 := hj _ _ h4
    have hl1 : Sem.run Tryz.prog (loadCellsFrom ⟨w.heap.size, 0, none⟩ 0 17 #[]) (w.alloc (.cells A 25)) = .ok A (w.alloc (.cells A 25)) := load_block (heap_alloc_new w _) hsz (fun j v hv => by simpa using hv)
    have hbk := heap_alloc_new w (.cells A 25)
    have k0 : (w.alloc (.cells A 25)).cell? ⟨w.heap.size, 0, none⟩ = some (.bool false) := by rw [cell_of_row _ _ _ _ _ _ hbk]; exact h0
    have k1 : (w.alloc (.cells A 25)).cell? ⟨w.heap.size, 1, none⟩ = some (.int .u8 x0) := by rw [cell_of_row _ _ _ _ _ _ hbk]; exact a1
    have k2 : (w.alloc (.cells A 25)).cell? ⟨w.heap.size, 2, none⟩ = some (.int .u8 x1) := by rw [cell_of_row _ _ _ _ _ _ hbk]; exact a2
    have k3 : (w.alloc (.cells A 25)).cell? ⟨w.heap.size, 3, none⟩ = some (.int .u8 x2) := by rw [cell_of_row _ _ _ _ _ _ hbk]; exact a3
    have k4 : (w.alloc (.cells A 25)).cell? ⟨w.heap.size, 4, none⟩ = some (.int .u8 x3) := by rw [cell_of_row _ _ _ _ _ _ hbk]; exact a4
    have HF : Hid (Fr No w (w.alloc (.cells A 25))) := Fr.alloc No _ _
    have HBK := Lib.hid hbk
    clear HE hd hdec hj a1 a2 a3 a4 h0 h1 h2 h3 h4 hbk
    go_enter Tryz.func53, Tryz.ntmps53
    have q24 := Tryz.eqGuardType25
    have t3 := Tryz.underlying3
    have u3 := Tryz.runUnderlying3
    have g3 := Tryz.isAgg3
    have z3 := Tryz.sizeOf3
    have t4 := Tryz.underlying4
    have u4 := Tryz.runUnderlying4
    have g4 := Tryz.isAgg4
    have z4 := Tryz.sizeOf4
    have t5 := Tryz.underlying5
    have u5 := Tryz.runUnderlying5
    have g5 := Tryz.isAgg5
    have z5 := Tryz.sizeOf5
    have t23 := Tryz.underlying23
    have u23 := Tryz.runUnderlying23
    have g23 := Tryz.isAgg23
    have z23 := Tryz.sizeOf23
    have t25 := Tryz.underlying25
    have u25 := Tryz.runUnderlying25
    have g25 := Tryz.isAgg25
    have z25 := Tryz.sizeOf25
    have c75 := Tryz.call75
    have mixed : Tryz.prog.follows .mixedOrders = true := by kernel_rfl
    obtain ⟨k24, hk24⟩ : ∃ k, k = 17 := ⟨_, rfl⟩
    rw [← hk24] at z25
    have nk24 : ¬ k24 = 0 := by omega
    have HK25 := Lib.hid hk24
    have hP : Tryz.prog = PD := rfl
    rw [hP] at t3 u3 g3 z3 t4 u4 g4 z4 t5 u5 g5 z5 t23 u23 g23 z23 t25 u25 g25 z25 c75 mixed hl1 hE q24 ⊢
    have HP := Lib.hid hP.symm
    clear hP hk24
    rw [← HK25.out] at hl1
    go_wp2_with fail
    obtain ⟨bk, hbk⟩ : ∃ bk, w.heap.size = bk := ⟨_, rfl⟩
    rw [hbk] at hl1 k0 k1 k2 k3 k4 HBK ⊢
    clear hbk
    generalize w.alloc (.cells A 25) = w1 at hl1 k0 k1 k2 k3 k4 HF HBK ⊢
    clear hl1
    have hld : ∀ w', Fr No w1 w' → Sem.run PD (loadCellsFrom ⟨bk, 0, none⟩ 0 k24 #[]) w' = .ok A w' := fun w' hf => by rw [HK25.out]; exact load_block (hf.keep HBK.out) hsz (fun j v hv => by simpa using hv)
    have hl2 := hld _ (Fr.drew No w1)
    have HL := Lib.hid hld
    clear hld
    go_region_held3 (fun w' => Sem.run PD (loadCellsFrom ⟨bk, 0, none⟩ 0 k24 #[]) w' = .ok A w' ∧ w'.cell? ⟨bk, 0, none⟩ = some (.bool false) ∧ w'.cell? ⟨bk, 1, none⟩ = some (.int .u8 x0) ∧ w'.cell? ⟨bk, 2, none⟩ = some (.int .u8 x1) ∧ w'.cell? ⟨bk, 3, none⟩ = some (.int .u8 x2) ∧ w'.cell? ⟨bk, 4, none⟩ = some (.int .u8 x3)) (go_keep) (first | (go_at_call 75; refine (at_prog HP.out (v4_any x0 x1 x2 x3 _)).mono ?_; rintro e w2 ⟨rfl, hf⟩; rw [HB.out]; have hf2 := (Fr.drew No w1).trans hf; have l2 := HL.out _ hf2; have m0 := hf2.cell k0; have m1 := hf2.cell k1; have m2 := hf2.cell k2; have m3 := hf2.cell k3; have m4 := hf2.cell k4; have HF2 := Lib.hid (HF.out.trans hf2); clear hf hf2))
    go_wp2_with fail
    go_ret
    exact ⟨rfl, HF2.out⟩
  · have HV : Hid (validA true xs = true) := rfl
    rw [show validA true xs = true from rfl]
    clear hj HE
    have k0 : (w.alloc (.cells A 25)).cell? ⟨w.heap.size, 0, none⟩ = some (.bool true) := by rw [cell_of_row _ _ _ _ _ _ (heap_alloc_new w _)]; exact h0
    have HF : Hid (Fr No w (w.alloc (.cells A 25))) := Fr.alloc No _ _
    clear h0
    go_enter Tryz.func53, Tryz.ntmps53
    go_wp2_with fail
    obtain ⟨bk, hbk⟩ : ∃ bk, w.heap.size = bk := ⟨_, rfl⟩
    rw [hbk] at k0 ⊢
    clear hbk
    generalize w.alloc (.cells A 25) = w1 at k0 HF ⊢
    go_quiet (fail)
    go_wp2_with fail
    go_ret
    exact ⟨rfl, HF.out.trans (Fr.drewN _ _ _)⟩

end Go.Proofs.YtnadendhboiliaaGreat
namespace Go.Proofs.YtnadendhboiliaaGreat
open Go.ChangeShapes Go.WideShapes Go.ChangeAt Go.RowKit
set_option linter.unusedVariables false

def zeros : List Nat := [0, 0, 0, 0, 0, 0, 0, 0, 0, 0, 0, 0, 0, 0, 0, 0]
/-- The bytes of groups. -/
def pack (gs : List Nat) : List Nat := gs.flatMap fun g => [g / 256, g % 256]
/-- What V6 gives. -/
def v6Of (gs : List Nat) : List Nat := if gs.length = 8 then pack gs else zeros

theorem pack_length (gs : List Nat) : (pack gs).length = 2 * gs.length := by
  induction gs with
  | nil => rfl
  | cons g gs ih => simp [pack] at ih ⊢; omega
theorem pack_bytes {gs : List Nat} (h : ∀ g ∈ gs, g < 65536) : ∀ x ∈ pack gs, x < 256 := by
  intro x hx
  obtain ⟨g, hg, hx⟩ := List.mem_flatMap.1 hx
  have := h g hg
  simp at hx
  omega
theorem zeros_bytes : Bytes zeros := ⟨rfl, fun x hx => by simp [zeros] at hx; omega⟩
/-- The bytes when the first i groups have been written. -/
def part (gs : List Nat) (i : Nat) : List Nat := pack (gs.take i) ++ List.replicate (16 - 2 * i) 0
theorem part_length {gs : List Nat} {i : Nat} (h8 : gs.length = 8) (hi : i ≤ 8) : (part gs i).length = 16 := by
  rw [part, List.length_append, pack_length, List.length_take, List.length_replicate]; omega
theorem part_step {gs : List Nat} {i g : Nat} (h8 : gs.length = 8) (hg : gs[i]? = some g) : ((part gs i).set (2 * i) (g / 256)).set (2 * i + 1) (g % 256) = part gs (i + 1) := by
  have hi : i < 8 := by have := (List.getElem?_eq_some_iff.1 hg).1; omega
  have hl : (pack (gs.take i)).length = 2 * i := by rw [pack_length, List.length_take]; omega
  have e : List.replicate (16 - 2 * i) 0 = 0 :: 0 :: List.replicate (16 - 2 * (i + 1)) 0 := by
    rw [show 16 - 2 * i = (16 - 2 * (i + 1)) + 1 + 1 by omega, List.replicate_succ, List.replicate_succ]
  have ht : gs.take (i + 1) = gs.take i ++ [g] := by
    rw [List.take_add_one, hg]; rfl
  have hp : pack (gs.take i ++ [g]) = pack (gs.take i) ++ [g / 256, g % 256] := by simp [pack]
  rw [part, part, e, ht, hp]
  rw [List.set_append_right _ _ (by omega), hl, Nat.sub_self, List.set_cons_zero, List.set_append_right _ _ (by omega), hl, show 2 * i + 1 - 2 * i = 1 by omega]
  simp
theorem part_all {gs : List Nat} (h8 : gs.length = 8) : part gs 8 = pack gs := by
  rw [part, List.take_of_length_le (by omega)]; simp

theorem adr_set {w : World} {m i x : Nat} {b : Bool} {L : List Nat} {t : TypeId} (h : w.heap[m]? = some (.cells (adr b L).toArray t (0, 0))) : (w.setCell ⟨m, 1 + i, none⟩ (.int .u8 x)).heap[m]? = some (.cells (adr b (L.set i x)).toArray t (0, 0)) := by
  rw [heap_setCell_same w m (1 + i) _ _ _ h]
  congr 2
  apply Array.ext'
  rw [Nat.add_comm]
  simp [adr, nums, List.map_set]
theorem adr_cell {w : World} {m i x : Nat} {b : Bool} {L : List Nat} {t : TypeId} {fr : Nat × Nat} (h : w.heap[m]? = some (.cells (adr b L).toArray t fr)) (hx : L[i]? = some x) : w.cell? ⟨m, 1 + i, none⟩ = some (.int .u8 x) := by
  rw [cell_of_row _ _ _ _ _ _ h]
  simpa using adr_get hx

theorem zero25 : ∀ w, (zeroValue 25).run Tryz.prog w = .ok (.agg (adr false zeros).toArray) w := by
  intro w
  kernel_rfl

end Go.Proofs.YtnadendhboiliaaGreat
namespace Go.Proofs.YtnadendhboiliaaGreat
open Go.ChangeShapes Go.WideShapes Go.ChangeAt Go.RowKit
set_option linter.unusedVariables false

/-- Bytes as a string. -/
def bs (l : List UInt8) : ByteArray := ⟨l.toArray⟩
theorem bs_size (l : List UInt8) : (bs l).size = l.length := rfl
/-- The text before and behind the first c. -/
def cutc (c : UInt8) : List UInt8 → Option (List UInt8 × List UInt8)
  | [] => none
  | x :: l => if x = c then some ([], l) else (cutc c l).map fun p => (x :: p.1, p.2)
/-- The text before and behind the first two colons. -/
def cut2 : List UInt8 → Option (List UInt8 × List UInt8)
  | [] => none
  | x :: l => if [58, 58].isPrefixOf (x :: l) then some ([], l.drop 1) else (cut2 l).map fun p => (x :: p.1, p.2)

/-- What Cut hands back. -/
def cutR (l : List UInt8) : Option (List UInt8 × List UInt8) → List UInt8 × List UInt8 × Bool
  | none => (l, [], false)
  | some (a, b) => (a, b, true)

/-- The number from 0 to 255 that decimal digits without a leading zero spell. -/
def decV (l : List UInt8) : Option Nat :=
  if 1 < l.length ∧ l.head? = some 48 then none else match Lib.parseUintB 8 l with
    | .ok u => some u
    | _ => none

def hexDig (c : UInt8) : Option Nat :=
  if 48 ≤ c.toNat ∧ c.toNat ≤ 57 then some (c.toNat - 48) else if 97 ≤ c.toNat ∧ c.toNat ≤ 102 then some (c.toNat - 87) else if 65 ≤ c.toNat ∧ c.toNat ≤ 70 then some (c.toNat - 55) else none
def hexGo : Nat → List UInt8 → Option Nat
  | acc, [] => some acc
  | acc, c :: r => match hexDig c with
    | some d => hexGo (acc * 16 + d) r
    | none => none
/-- The number that one to four hexadecimal digits spell. -/
def hexV (l : List UInt8) : Option Nat := if l = [] ∨ 4 < l.length then none else hexGo 0 l

/-- k + 1 numbers with dots between them. -/
def par : Nat → List UInt8 → Option (List Nat)
  | 0, l => match cutc 46 l with
    | some _ => none
    | none => (decV l).map fun x => [x]
  | k + 1, l => match cutc 46 l with
    | none => none
    | some (a, b) => match decV a, par k b with
      | some x, some r => some (x :: r)
      | _, _ => none

theorem par_length : ∀ (k : Nat) (l : List UInt8) (xs : List Nat), par k l = some xs → xs.length = k + 1
  | 0, l, xs, h => by
    rw [par] at h
    split at h
    · cases h
    · obtain ⟨x, -, rfl⟩ := Option.map_eq_some_iff.1 h
      rfl
  | k + 1, l, xs, h => by
    rw [par] at h
    split at h
    · cases h
    · split at h
      · rename_i hr
        cases h
        simp [par_length k _ _ hr]
      · cases h

/-- The two groups that four bytes make. -/
def two : List Nat → List Nat
  | [a, b, c, d] => [a * 256 + b, c * 256 + d]
  | _ => []

/-- The parts between the occurrences of c. -/
def splitc (c : UInt8) : List UInt8 → List (List UInt8)
  | [] => [[]]
  | x :: l => if x = c then [] :: splitc c l else match splitc c l with
    | [] => [[x]]
    | h :: t => (x :: h) :: t

theorem split_cut (c : UInt8) : ∀ l : List UInt8, splitc c l = match cutc c l with
    | none => [l]
    | some (a, b) => a :: splitc c b
  | [] => rfl
  | x :: l => by
    have ih := split_cut c l
    rw [splitc, cutc]
    by_cases h : x = c
    · rw [if_pos h, if_pos h]
    · rw [if_neg h, if_neg h, ih]
      cases cutc c l with
      | none => rfl
      | some p => rfl
theorem split_ne (c : UInt8) (l : List UInt8) : splitc c l ≠ [] := by
  rw [split_cut]
  split <;> simp

/-- The groups that the parts make. -/
def grpGo (last : Bool) : List (List UInt8) → Option (List Nat)
  | [] => some []
  | [p] => match (if last then par 3 p else none) with
    | some xs => some (two xs)
    | none => (hexV p).map fun g => [g]
  | p :: q :: r => match hexV p, grpGo last (q :: r) with
    | some g, some gs => some (g :: gs)
    | _, _ => none
/-- The groups of a text. -/
def grpP (last : Bool) (l : List UInt8) : Option (List Nat) := if l = [] then some [] else grpGo last (splitc 58 l)

/-- Eight groups, or none. -/
def eight : Option (List Nat) → Option (List Nat)
  | some gs => if gs.length = 8 then some gs else none
  | none => none
/-- Groups before and behind the two colons. -/
def fill : Option (List Nat) → Option (List Nat) → Option (List Nat)
  | some g, some h => if g.length + h.length ≤ 7 then some (g ++ (List.replicate (8 - g.length - h.length) 0 ++ h)) else none
  | _, _ => none
def parse6 (l : List UInt8) : Option (List Nat) := match cut2 l with
  | none => eight (grpP true l)
  | some (a, b) => fill (grpP false a) (grpP true b)

/-- What Parse gives: the family and the bytes, or nothing. -/
def parseS (l : List UInt8) : Option (Bool × List Nat) := if l.contains 58 then (parse6 l).map fun gs => (true, pack gs) else (par 3 l).map fun xs => (false, xs ++ [0, 0, 0, 0, 0, 0, 0, 0, 0, 0, 0, 0])

def resB : Option (Bool × List Nat) → Bool
  | some (b, _) => b
  | none => false
def resX : Option (Bool × List Nat) → List Nat
  | some (_, xs) => xs
  | none => zeros

theorem parseUintM_le (M : Nat) : ∀ (l : List UInt8) (acc u : Nat), acc ≤ M → Lib.parseUintM M acc l = .ok u → u ≤ M
  | [], acc, u, h, e => by rw [Lib.parseUintM] at e; cases e; exact h
  | c :: r, acc, u, h, e => by
    rw [Lib.parseUintM] at e
    split at e
    · split at e
      · cases e
      · split at e
        · cases e
        · rename_i h3
          exact parseUintM_le M r _ u (by omega) e
    · cases e
theorem decV_lt {l : List UInt8} {x : Nat} (h : decV l = some x) : x < 256 := by
  unfold decV at h
  split at h
  · cases h
  · split at h
    · rename_i u hu
      cases h
      unfold Lib.parseUintB at hu
      split at hu
      · cases hu
      · have := parseUintM_le _ _ _ _ (by omega) hu
        omega
    · cases h
theorem par_lt : ∀ (k : Nat) (l : List UInt8) (xs : List Nat), par k l = some xs → ∀ x ∈ xs, x < 256
  | 0, l, xs, h => by
    rw [par] at h
    split at h
    · cases h
    · obtain ⟨x, hx, rfl⟩ := Option.map_eq_some_iff.1 h
      intro y hy
      simp at hy
      subst hy
      exact decV_lt hx
  | k + 1, l, xs, h => by
    rw [par] at h
    split at h
    · cases h
    · split at h
      · rename_i hd hr
        cases h
        intro y hy
        rcases List.mem_cons.1 hy with rfl | hy
        · exact decV_lt hd
        · exact par_lt k _ _ hr y hy
      · cases h
theorem hexDig_lt {c : UInt8} {d : Nat} (h : hexDig c = some d) : d < 16 := by
  unfold hexDig at h
  split at h
  · cases h; omega
  · split at h
    · cases h; omega
    · split at h
      · cases h; omega
      · cases h
theorem hexGo_lt : ∀ (l : List UInt8) (acc x : Nat), hexGo acc l = some x → x < (acc + 1) * 16 ^ l.length
  | [], acc, x, h => by rw [hexGo] at h; cases h; simp
  | c :: r, acc, x, h => by
    rw [hexGo] at h
    split at h
    · rename_i d hd
      have h1 := hexGo_lt r _ x h
      have h2 := hexDig_lt hd
      refine Nat.lt_of_lt_of_le h1 ?_
      rw [List.length_cons, Nat.pow_succ, Nat.mul_comm (16 ^ r.length) 16, ← Nat.mul_assoc]
      exact Nat.mul_le_mul_right _ (by omega)
    · cases h
theorem hexV_lt {l : List UInt8} {x : Nat} (h : hexV l = some x) : x < 65536 := by
  unfold hexV at h
  split at h
  · cases h
  · have h1 := hexGo_lt l 0 x h
    have : 16 ^ l.length ≤ 16 ^ 4 := Nat.pow_le_pow_right (by decide) (by omega)
    have e : (16 : Nat) ^ 4 = 65536 := by decide
    omega
theorem two_lt {xs : List Nat} (h : ∀ x ∈ xs, x < 256) : ∀ g ∈ two xs, g < 65536 := by
  intro g hg
  unfold two at hg
  split at hg
  · rename_i a b c d
    have ha := h a (by simp); have hb := h b (by simp); have hc := h c (by simp); have hd := h d (by simp)
    simp at hg
    omega
  · cases hg
theorem grpGo_lt (last : Bool) : ∀ (ps : List (List UInt8)) (gs : List Nat), grpGo last ps = some gs → ∀ g ∈ gs, g < 65536
  | [], gs, h => by rw [grpGo] at h; cases h; intro g hg; cases hg
  | [p], gs, h => by
    rw [grpGo] at h
    split at h
    · rename_i xs hx
      cases h
      cases last with
      | false => cases hx
      | true => exact two_lt (par_lt 3 p xs hx)
    · obtain ⟨x, hx, rfl⟩ := Option.map_eq_some_iff.1 h
      intro g hg
      simp at hg
      subst hg
      exact hexV_lt hx
  | p :: q :: r, gs, h => by
    rw [grpGo] at h
    split at h
    · rename_i hd hr
      cases h
      intro g hg
      rcases List.mem_cons.1 hg with rfl | hg
      · exact hexV_lt hd
      · exact grpGo_lt last (q :: r) _ hr g hg
    · cases h
theorem grpP_lt {last : Bool} {l : List UInt8} {gs : List Nat} (h : grpP last l = some gs) : ∀ g ∈ gs, g < 65536 := by
  unfold grpP at h
  split at h
  · cases h; intro g hg; cases hg
  · exact grpGo_lt last _ _ h
end Go.Proofs.YtnadendhboiliaaGreat
namespace Go.Proofs.YtnadendhboiliaaGreat
open Go.ChangeShapes Go.WideShapes Go.ChangeAt Go.RowKit
set_option linter.unusedVariables false

/-- The number that decimal digits spell. -/
def digGo : Nat → List UInt8 → Option Nat
  | acc, [] => some acc
  | acc, c :: r => if 48 ≤ c.toNat ∧ c.toNat ≤ 57 then digGo (10 * acc + (c.toNat - 48)) r else none
/-- The number from 0 to a bound that decimal digits without a leading zero spell. -/
def decR (most : Nat) (l : List UInt8) : Option Nat :=
  if l = [] ∨ 6 < l.length ∨ (l.head? = some 48 ∧ 1 < l.length) then none else match digGo 0 l with
    | some n => if n ≤ most then some n else none
    | none => none
/-- Digits, as long as the number is within the bound. -/
def limGo (M : Nat) : Nat → List UInt8 → Option Nat
  | acc, [] => some acc
  | acc, c :: r => if 48 ≤ c.toNat ∧ c.toNat ≤ 57 then (if M < 10 * acc + (c.toNat - 48) then none else limGo M (10 * acc + (c.toNat - 48)) r) else none

theorem digGo_step {l : List UInt8} {i acc : Nat} {c : UInt8} (h : l[i]? = some c) : digGo acc (l.drop i) = if 48 ≤ c.toNat ∧ c.toNat ≤ 57 then digGo (10 * acc + (c.toNat - 48)) (l.drop (i + 1)) else none := by
  obtain ⟨h1, e1⟩ := List.getElem?_eq_some_iff.1 h
  rw [List.drop_eq_getElem_cons h1, e1]
  rfl
theorem digGo_le : ∀ (l : List UInt8) (acc u : Nat), digGo acc l = some u → acc * 10 ^ l.length ≤ u
  | [], acc, u, h => by rw [digGo] at h; cases h; simp
  | c :: r, acc, u, h => by
    rw [digGo] at h
    split at h
    · have := digGo_le r _ u h
      refine Nat.le_trans ?_ this
      rw [List.length_cons, Nat.pow_succ, Nat.mul_comm (10 ^ r.length) 10, ← Nat.mul_assoc]
      exact Nat.mul_le_mul_right _ (by omega)
    · cases h
theorem digGo_acc {l : List UInt8} {acc u : Nat} (h : digGo acc l = some u) : acc ≤ u := by
  have h1 := digGo_le l acc u h
  have h2 : 1 ≤ 10 ^ l.length := Nat.one_le_pow _ _ (by decide)
  have : acc * 1 ≤ acc * 10 ^ l.length := Nat.mul_le_mul_left _ h2
  omega
theorem limGo_dig (M : Nat) : ∀ (l : List UInt8) (acc : Nat), acc ≤ M → limGo M acc l = match digGo acc l with
    | some n => if n ≤ M then some n else none
    | none => none
  | [], acc, h => by simp [limGo, digGo, h]
  | c :: r, acc, h => by
    rw [limGo, digGo]
    by_cases hd : 48 ≤ c.toNat ∧ c.toNat ≤ 57
    · rw [if_pos hd, if_pos hd]
      by_cases hm : M < 10 * acc + (c.toNat - 48)
      · rw [if_pos hm]
        cases hg : digGo (10 * acc + (c.toNat - 48)) r with
        | none => rfl
        | some u =>
          have := digGo_acc hg
          show none = if u ≤ M then some u else none
          rw [if_neg (by omega)]
      · rw [if_neg hm]
        exact limGo_dig M r _ (by omega)
    · rw [if_neg hd, if_neg hd]

/-- Many digits without a leading zero make a great number. -/
theorem digGo_big {l : List UInt8} {u : Nat} (hl : 6 < l.length) (h0 : l.head? ≠ some 48) (h : digGo 0 l = some u) : 1000000 ≤ u := by
  cases l with
  | nil => simp at hl
  | cons c r =>
    rw [digGo] at h
    split at h
    · rename_i hd
      have h1 := digGo_le r _ u h
      have hc : c.toNat ≠ 48 := fun e => h0 (by rw [List.head?_cons]; congr 1; rw [← UInt8.toNat_inj]; exact e)
      have h2 : 10 ^ 6 ≤ 10 ^ r.length := Nat.pow_le_pow_right (by decide) (by simp at hl; omega)
      have h3 : 1 * 10 ^ 6 ≤ (10 * 0 + (c.toNat - 48)) * 10 ^ r.length := Nat.mul_le_mul (by omega) h2
      have e : (10 : Nat) ^ 6 = 1000000 := by decide
      omega
    · cases h

/-- The bound on the length says nothing of its own. -/
theorem decR_lim {M : Nat} (hM : M < 1000000) (l : List UInt8) : decR M l = if l = [] ∨ (l.head? = some 48 ∧ 1 < l.length) then none else limGo M 0 l := by
  rw [limGo_dig M l 0 (by omega), decR]
  by_cases h1 : l = [] ∨ (l.head? = some 48 ∧ 1 < l.length)
  · rw [if_pos h1, if_pos (by rcases h1 with h1 | h1; exact .inl h1; exact .inr (.inr h1))]
  · rw [if_neg h1]
    by_cases h2 : 6 < l.length
    · rw [if_pos (.inr (.inl h2))]
      cases hg : digGo 0 l with
      | none => rfl
      | some u =>
        have := digGo_big h2 (fun e => h1 (.inr ⟨e, by omega⟩)) hg
        show none = if u ≤ M then some u else none
        rw [if_neg (by omega)]
    · rw [if_neg (by rintro (h | h | h); exact h1 (.inl h); exact h2 h; exact h1 (.inr h))]

theorem uintM_lim (M : Nat) (hM : M < 1000000) : ∀ (l : List UInt8) (acc : Nat), acc ≤ M → (match Lib.parseUintM M acc l with
    | .ok u => some u
    | _ => none) = limGo M acc l
  | [], acc, h => rfl
  | c :: r, acc, h => by
    rw [Lib.parseUintM, limGo]
    by_cases hd : 48 ≤ c.toNat ∧ c.toNat ≤ 57
    · rw [if_pos hd, if_pos hd, if_neg (by omega), Nat.mul_comm acc 10]
      by_cases hm : M < 10 * acc + (c.toNat - 48)
      · rw [if_pos hm, if_pos hm]
      · rw [if_neg hm, if_neg hm]
        exact uintM_lim M hM r _ (by omega)
    · rw [if_neg hd, if_neg hd]

theorem decV_decR (l : List UInt8) : decV l = decR 255 l := by
  rw [decR_lim (by omega), decV, Lib.parseUintB]
  by_cases h1 : l = []
  · subst h1; rfl
  · rw [if_neg h1]
    by_cases h2 : 1 < l.length ∧ l.head? = some 48
    · rw [if_pos h2, if_pos (.inr ⟨h2.2, h2.1⟩)]
    · rw [if_neg h2, if_neg (by rintro (h | h); exact h1 h; exact h2 ⟨h.2, h.1⟩)]
      exact uintM_lim 255 (by omega) l 0 (by omega)

theorem decR_le {M : Nat} {l : List UInt8} {x : Nat} (h : decR M l = some x) : x ≤ M := by
  unfold decR at h
  split at h
  · cases h
  · split at h
    · split at h
      · cases h; assumption
      · cases h
    · cases h

theorem digGo_all : ∀ {l : List UInt8} {acc u : Nat}, digGo acc l = some u → ∀ c ∈ l, 48 ≤ c.toNat ∧ c.toNat ≤ 57
  | [], acc, u, h => by intro c hc; cases hc
  | c :: r, acc, u, h => by
    rw [digGo] at h
    split at h
    · rename_i hd
      intro x hx
      rcases List.mem_cons.1 hx with rfl | hx
      · exact hd
      · exact digGo_all h x hx
    · cases h
theorem decR_all {M : Nat} {l : List UInt8} {x : Nat} (h : decR M l = some x) : ∀ c ∈ l, 48 ≤ c.toNat ∧ c.toNat ≤ 57 := by
  unfold decR at h
  split at h
  · cases h
  · split at h
    · rename_i n hn
      exact digGo_all hn
    · cases h

/-- The port that digits spell. -/
def portV (l : List UInt8) : Option Nat := if l = [] ∨ l.head? = some 48 then none else limGo 65535 0 l
/-! ### parts -/

theorem cutc_none {c : UInt8} : ∀ {l : List UInt8}, (∀ x ∈ l, x ≠ c) → cutc c l = none
  | [], h => rfl
  | x :: l, h => by
    rw [cutc, if_neg (h x (by simp)), cutc_none (l := l) (fun y hy => h y (List.mem_cons_of_mem _ hy))]
    rfl
theorem cutc_at {c : UInt8} : ∀ {a b : List UInt8}, (∀ x ∈ a, x ≠ c) → cutc c (a ++ c :: b) = some (a, b)
  | [], b, h => by rw [List.nil_append, cutc, if_pos rfl]
  | x :: a, b, h => by
    rw [List.cons_append, cutc, if_neg (h x (by simp)), cutc_at (a := a) (fun y hy => h y (List.mem_cons_of_mem _ hy))]
    rfl
theorem splitc_none {c : UInt8} {l : List UInt8} (h : ∀ x ∈ l, x ≠ c) : splitc c l = [l] := by rw [split_cut, cutc_none h]
theorem splitc_at {c : UInt8} {a b : List UInt8} (h : ∀ x ∈ a, x ≠ c) : splitc c (a ++ c :: b) = a :: splitc c b := by rw [split_cut, cutc_at h]
theorem splitc_len (c : UInt8) (l : List UInt8) : (splitc c l).length ≤ l.length + 1 := by
  induction l with
  | nil => simp [splitc]
  | cons x l ih =>
    rw [splitc]
    split
    · simp; omega
    · split
      · simp
      · rename_i h t e; rw [e] at ih; simp at ih ⊢; omega
theorem splitc_mem {c : UInt8} : ∀ {l p : List UInt8}, p ∈ splitc c l → p.length ≤ l.length := by
  intro l
  induction l with
  | nil => intro p hp; simp [splitc] at hp; simp [hp]
  | cons x l ih =>
    intro p hp
    rw [splitc] at hp
    split at hp
    · rcases List.mem_cons.1 hp with rfl | hp
      · simp
      · have := ih hp; simp; omega
    · split at hp
      · simp at hp; simp [hp]
      · rename_i h t e
        rcases List.mem_cons.1 hp with rfl | hp
        · have := ih (p := h) (by rw [e]; simp); simp; omega
        · have := ih (p := p) (by rw [e]; exact List.mem_cons_of_mem _ hp); simp; omega

/-- The reference's walk over the string: the parts found so far, the rest from the last one on. -/
theorem split_hit {c : UInt8} {l : List UInt8} {f i : Nat} {done : List (List UInt8)} (hs : splitc c l = done ++ splitc c (l.drop f)) (hf : f ≤ i) (hno : ∀ j x, f ≤ j → j < i → l[j]? = some x → x ≠ c) (hc : l[i]? = some c) : splitc c l = (done ++ [(l.drop f).take (i - f)]) ++ splitc c (l.drop (i + 1)) := by
  obtain ⟨h1, e1⟩ := List.getElem?_eq_some_iff.1 hc
  have e : l.drop f = (l.drop f).take (i - f) ++ c :: l.drop (i + 1) := by
    conv => lhs; rw [← List.take_append_drop (i - f) (l.drop f)]
    rw [List.drop_drop, show f + (i - f) = i by omega, List.drop_eq_getElem_cons h1, e1]
  rw [hs, e, splitc_at]
  · rw [← e]; simp
  · intro x hx
    obtain ⟨k, hk, hke⟩ := List.mem_iff_getElem.1 hx
    simp at hk
    refine hno (f + k) x (by omega) (by omega) ?_
    rw [List.getElem_take, List.getElem_drop] at hke
    rw [List.getElem?_eq_getElem (by omega), hke]
theorem split_end {c : UInt8} {l : List UInt8} {f : Nat} {done : List (List UInt8)} (hs : splitc c l = done ++ splitc c (l.drop f)) (hno : ∀ j x, f ≤ j → j < l.length → l[j]? = some x → x ≠ c) : splitc c l = done ++ [l.drop f] := by
  rw [hs, splitc_none]
  intro x hx
  obtain ⟨k, hk, hke⟩ := List.mem_iff_getElem.1 hx
  simp at hk
  refine hno (f + k) x (by omega) (by omega) ?_
  rw [List.getElem_drop] at hke
  rw [List.getElem?_eq_getElem (by omega), hke]

/-- All the parts' numbers. -/
def allV : List (List UInt8) → Option (List Nat)
  | [] => some []
  | p :: r => match decV p, allV r with
    | some x, some xs => some (x :: xs)
    | _, _ => none
theorem par_split : ∀ (k : Nat) (l : List UInt8), par k l = if (splitc 46 l).length = k + 1 then allV (splitc 46 l) else none
  | 0, l => by
    rw [par, split_cut]
    cases cutc 46 l with
    | none => simp [allV]; cases decV l <;> rfl
    | some p =>
      have := split_ne 46 p.2
      have h0 : (splitc 46 p.2).length ≠ 0 := fun h => this (List.length_eq_zero_iff.1 h)
      simp [h0]
  | k + 1, l => by
    rw [par, split_cut]
    cases cutc 46 l with
    | none => simp
    | some p =>
      have ih := par_split k p.2
      simp only [List.length_cons, Nat.add_right_cancel_iff, ih]
      by_cases h : (splitc 46 p.2).length = k + 1
      · simp only [if_pos h, allV]
        all_goals (cases decV p.1 <;> cases allV (splitc 46 p.2) <;> rfl)
      · simp only [if_neg h]
        cases decV p.1 <;> rfl
theorem allV_snoc : ∀ {ps : List (List UInt8)} {p : List UInt8}, allV (ps ++ [p]) = match allV ps, decV p with
    | some xs, some x => some (xs ++ [x])
    | _, _ => none
  | [], p => by rw [List.nil_append, allV, allV]; cases decV p <;> rfl
  | q :: r, p => by
    rw [List.cons_append, allV, allV, allV_snoc (ps := r)]
    cases decV q <;> cases allV r <;> cases decV p <;> rfl
theorem allV_none : ∀ {ps : List (List UInt8)} {p : List UInt8}, p ∈ ps → decV p = none → allV ps = none
  | [], p, h, _ => by cases h
  | q :: r, p, h, e => by
    rw [allV]
    rcases List.mem_cons.1 h with rfl | h
    · rw [e]
    · rw [allV_none h e]
      cases decV q <;> rfl
theorem allV_mem : ∀ {ps : List (List UInt8)} {xs : List Nat}, allV ps = some xs → ∀ p ∈ ps, ∃ x, decV p = some x := by
  intro ps xs h p hp
  cases hd : decV p with
  | some x => exact ⟨x, rfl⟩
  | none => rw [allV_none hp hd] at h; cases h

/-- A part has all that the text has, but for the sign. -/
theorem split_has {c x : UInt8} (hx : x ≠ c) : ∀ {l : List UInt8}, x ∈ l → ∃ p ∈ splitc c l, x ∈ p := by
  intro l
  induction l with
  | nil => intro h; cases h
  | cons y l ih =>
    intro h
    rw [splitc]
    split
    · rename_i hy
      rcases List.mem_cons.1 h with rfl | h
      · exact absurd hy hx
      · obtain ⟨p, hp, hxp⟩ := ih h
        exact ⟨p, List.mem_cons_of_mem _ hp, hxp⟩
    · rcases List.mem_cons.1 h with rfl | h
      · cases hs : splitc c l with
        | nil => exact ⟨[x], by simp, by simp⟩
        | cons q t => exact ⟨x :: q, by simp, by simp⟩
      · obtain ⟨p, hp, hxp⟩ := ih h
        cases hs : splitc c l with
        | nil => rw [hs] at hp; cases hp
        | cons q t =>
          rw [hs] at hp
          rcases List.mem_cons.1 hp with rfl | hp
          · exact ⟨y :: p, by simp, List.mem_cons_of_mem _ hxp⟩
          · exact ⟨p, List.mem_cons_of_mem _ hp, hxp⟩
/-- Four numbers with dots have no colon. -/
theorem par_colon {k : Nat} {l : List UInt8} {xs : List Nat} (h : par k l = some xs) : l.contains 58 = false := by
  cases hc : l.contains 58 with
  | false => rfl
  | true =>
    have hm : (58 : UInt8) ∈ l := by simpa using hc
    rw [par_split] at h
    split at h
    · obtain ⟨p, hp, hxp⟩ := split_has (c := 46) (by decide) hm
      obtain ⟨x, hx⟩ := allV_mem h p hp
      rw [decV_decR] at hx
      have := decR_all hx 58 hxp
      revert this
      decide
    · cases h
end Go.Proofs.YtnadendhboiliaaGreat
