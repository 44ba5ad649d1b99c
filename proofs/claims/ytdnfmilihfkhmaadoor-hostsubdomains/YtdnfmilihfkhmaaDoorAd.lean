/-
  Addresses: how one that came in lies, when two are equal, whole blocks read and written at once; no walk.
  Conditions: as each theorem says.
-/
import Derived.Test.YtdnfmilihfkhmaaDoorMem
import Derived.OpenShut
import Derived.ChangeArms
import Derived.Laws.StructEq
import Derived.Stop.BytesEq
import Derived.Laws.IdiomCopy
import Derived.Shelf.SlicesQ.Load
import Derived.WideShapes
import Derived.Laws.BitsLemmas
namespace Go.Proofs.YtdnfmilihfkhmaaDoor
open Go.ChangeShapes Go.WideShapes Go.ChangeAt Go.RowKit
set_option linter.unusedVariables false

theorem cell_at {cs : List Value} {r : Nat} {v : Value} (h : (cs.drop r).take 1 = [v]) : cs[r]? = some v := by
  have h1 : ((cs.drop r).take 1)[0]? = some v := by rw [h]; rfl
  simpa using h1

def numOf : Option Value → Nat
  | some (.int _ k) => k.toNat
  | _ => 0

theorem adr_length (b : Bool) (xs : List Nat) : (adr b xs).length = xs.length + 1 := by simp [adr, nums]
theorem adr_one (b : Bool) (xs : List Nat) : ∀ u ∈ adr b xs, u.oneCell' = true := by
  intro u hu
  rcases List.mem_cons.1 hu with rfl | hu
  · rfl
  · exact nums_one _ _ u hu
theorem adr_get {b : Bool} {xs : List Nat} {i x : Nat} (h : xs[i]? = some x) : (adr b xs)[1 + i]? = some (.int .u8 x) := by
  rw [Nat.add_comm]
  simpa [adr] using nums_get (k := .u8) h

set_option maxRecDepth 100000 in
theorem open_addr {H : Type} {enc : TypeId × Value → H} {w : World} {base base' : Nat} {spare : Nat → Bool} {held : Bool} {r : Reach} {v : Value} {d : DataW H} {ps : List MemPlace}
    (hval : Value.okWide Tryd.prog w r base' 24 v) (hd : DataW.Trod enc Tryd.prog w base spare held 24 v d ps) : ∃ b xs, v = .agg (adr b xs).toArray ∧ Bytes xs := by
  obtain ⟨cs, rfl, hsz⟩ := okWide_struct Tryd.underlying24 hval
  have h17 : Tryd.prog.cellsOf 24 = 17 := by kernel_rfl
  have h4 : Tryd.prog.cellsOf 4 = 1 := by kernel_rfl
  have h22 : Tryd.prog.cellsOf 22 = 16 := by kernel_rfl
  have h5 : Tryd.prog.cellsOf 5 = 1 := by kernel_rfl
  rw [h17] at hsz
  obtain ⟨fuel, hf⟩ := hd
  simp only [Value.cells] at hf
  obtain ⟨xs, n, _, _, hl, hxl, hx⟩ := DataW.trod_struct Tryd.underlying24 hf
  have e0 : DataW.trod enc Tryd.prog w base spare held n 4 ((cs.toList.drop 0).take (Tryd.prog.cellsOf 4)) = xs[0]? := hx 0 _ rfl
  have e1 : DataW.trod enc Tryd.prog w base spare held n 22 ((cs.toList.drop 1).take (Tryd.prog.cellsOf 22)) = xs[1]? := hx 1 _ rfl
  rw [h4] at e0
  rw [h22] at e1
  have hx2 : xs.length = 2 := hxl
  rw [List.getElem?_eq_getElem (by omega)] at e0
  obtain ⟨b, hb, _⟩ := DataW.trod_bool Tryd.underlying4 e0
  have hb0 := cell_at (cs := cs.toList) (r := 0) hb
  have hcell : ∀ j, j < 16 → ∃ k : Nat, cs.toList[j + 1]? = some (.int .u8 k) ∧ k < 256 := by
    intro j hj
    rw [List.getElem?_eq_getElem (by omega)] at e1
    obtain ⟨ys, m, _, _, hl1, hyl, hy⟩ := DataW.trod_array Tryd.underlying22 e1
    have ej := hy j hj
    rw [h5, List.getElem?_eq_getElem (by omega)] at ej
    obtain ⟨k, hk, _, hwf⟩ := DataW.trod_int Tryd.underlying5 ej
    have := cell_at hk
    rw [Nat.mul_one, List.getElem?_take, if_pos hj, List.getElem?_drop, Nat.add_comm] at this
    have hb := bounds_u8 hwf
    refine ⟨k.toNat, ?_, by omega⟩
    rw [this]
    simp
    omega
  refine ⟨b, (List.range 16).map fun j => (numOf cs.toList[j + 1]?), ?_, by simp, ?_⟩
  · congr 1
    apply Array.ext'
    apply List.ext_getElem?
    intro i
    rw [List.toList_toArray]
    cases i with
    | zero => rw [hb0]; rfl
    | succ j =>
      simp only [adr, List.getElem?_cons_succ, nums, List.map_map, List.getElem?_map]
      by_cases hj : j < 16
      · obtain ⟨k, hk, _⟩ := hcell j hj
        rw [hk, List.getElem?_range hj]
        simp only [Option.map_some, Function.comp_apply, hk]
        simp [numOf]
      · rw [List.getElem?_eq_none (by simp; omega), List.getElem?_eq_none (by simp; omega)]
        rfl
  · intro x hx
    obtain ⟨j, hj, rfl⟩ := List.mem_map.1 hx
    obtain ⟨k, hk, hlt⟩ := hcell j (List.mem_range.1 hj)
    rw [hk]
    simpa [numOf] using hlt

theorem nums_u8 {xs : List Nat} (h : ∀ x ∈ xs, x < 256) : nums .u8 xs = (xs.map UInt8.ofNat).map Extern.Stop.cell := by
  rw [nums, List.map_map]
  apply List.map_congr_left
  intro x hx
  have := h x hx
  simp [Extern.Stop.cell, Nat.mod_eq_of_lt this]

theorem ofNat_inj {xs ys : List Nat} (hx : ∀ x ∈ xs, x < 256) (hy : ∀ x ∈ ys, x < 256) : (xs.map UInt8.ofNat == ys.map UInt8.ofNat) = decide (xs = ys) := by
  have key : xs.map UInt8.ofNat = ys.map UInt8.ofNat → xs = ys := by
    intro h
    have h2 := congrArg (List.map UInt8.toNat) h
    rw [List.map_map, List.map_map] at h2
    have e : ∀ zs : List Nat, (∀ x ∈ zs, x < 256) → zs.map (UInt8.toNat ∘ UInt8.ofNat) = zs := by
      intro zs hz
      conv => rhs; rw [← List.map_id zs]
      apply List.map_congr_left
      intro x hx
      simp [Nat.mod_eq_of_lt (hz x hx)]
    rw [e xs hx, e ys hy] at h2
    exact h2
  by_cases h : xs = ys
  · subst h; simp
  · rw [decide_eq_false h]
    simp
    exact fun e => h (key e)

theorem adr_eq {b c : Bool} {xs ys : List Nat} (hx : Bytes xs) (hy : Bytes ys) (w : World) : Sem.run Tryd.prog (Op.equalIn 10000 24 (.agg (adr b xs).toArray) (.agg (adr c ys).toArray)) w = .ok (decide (b = c ∧ xs = ys)) w := by
  have hS : Tryd.prog.underlying 24 = some (.struct (Tryd.prog.fieldsOf 24)) := by kernel_rfl
  have hF : Tryd.prog.fieldsOf 24 = #[{ name := "IPv6", type := 4, offset := 0, embedded := false, tag := "", pkgPath := "", byteOffset := 0 }, { name := "Bytes", type := 22, offset := 1, embedded := false, tag := "", pkgPath := "", byteOffset := 1 }] := by kernel_rfl
  have ex : ∀ (b : Bool) (xs : List Nat), Bytes xs → (adr b xs).toArray.extract 1 (1 + 16) = ((xs.map UInt8.ofNat).map Extern.Stop.cell).toArray := by
    intro b xs hx
    rw [← nums_u8 hx.2]
    apply Array.ext'
    simp [adr]
    rw [List.take_of_length_le (by rw [nums_length, hx.1]; omega)]
  have hE : Sem.run Tryd.prog (Op.equalIn 9999 22 (.agg ((adr b xs).toArray.extract 1 (1 + 16))) (.agg ((adr c ys).toArray.extract 1 (1 + 16)))) w = .ok (decide (xs = ys)) w := by
    rw [ex b xs hx, ex c ys hy, run_equalIn_bytes w 9997 22 5 16 Tryd.underlying22 Tryd.underlying5 Tryd.sizeOf5 _ _ (by simpa using hx.1) (by simpa using hy.1), ofNat_inj hx.2 hy.2]
  have hB : Sem.run Tryd.prog (Op.equalIn 9999 4 (.bool b) (.bool c)) w = .ok (b == c) w := by rw [run_equalIn_bool' w 9998 4 b c Tryd.underlying4]
  have h0 : ∀ (b : Bool) (xs : List Nat), (adr b xs).toArray[0]? = some (.bool b) := fun b xs => rfl
  rw [show (10000 : Nat) = 9999 + 1 from rfl, run_equalIn_agg w 9999 24 _ _ hS Tryd.stoodInHeld24, hF]
  have e1 : ∀ (b : Bool) (xs : List Nat), (adr b xs).toArray.extract 1 17 = (List.take 16 (adr b xs).tail).toArray := fun b xs => by apply Array.ext'; simp [adr]
  rw [show 1 + 16 = 17 from rfl, e1 b xs, e1 c ys] at hE
  simp [Op.eqFields, part, Tryd.isAgg4, Tryd.isAgg22, Tryd.sizeOf22, h0, hB, hE]
  by_cases hxy : xs = ys <;> cases b <;> cases c <;> simp [hxy]

theorem load_block {P : Program} {w : World} {B o n : Nat} {cs : Array Value} {t : TypeId} {fr : Nat × Nat} {xs : Array Value} (h : w.heap[B]? = some (.cells cs t fr)) (hn : xs.size = n) (hx : ∀ j v, xs[j]? = some v → cs[o + j]? = some v) :
    Sem.run P (loadCellsFrom ⟨B, o, none⟩ 0 n #[]) w = .ok xs w := by
  have := run_loadCellsFrom_list P w ⟨B, o, none⟩ xs.toList n (by simpa using hn) (fun j v hv => by
    rw [Addr.add_lit, cell_of_row w B (o + j) cs t fr h]
    exact hx j v (by simpa using hv))
  simpa using this

theorem load_all {P : Program} {w : World} {B n : Nat} {cs : List Value} {t : TypeId} {fr : Nat × Nat} (h : w.heap[B]? = some (.cells cs.toArray t fr)) (hn : cs.length = n) : Sem.run P (loadCellsFrom ⟨B, 0, none⟩ 0 n #[]) w = .ok cs.toArray w :=
  load_block h (by simpa using hn) (fun j v hv => by simpa using hv)

theorem store_all {P : Program} {w : World} {B : Nat} {cs : Array Value} {t : TypeId} (xs : List Value) (h : w.heap[B]? = some (.cells cs t (0, 0))) (hl : xs.length = cs.size) (h1 : ∀ u ∈ xs, u.oneCell' = true) :
    ∃ y, Sem.run P (storeCells ⟨B, 0, none⟩ xs 0) w = .ok () y ∧ y.heap[B]? = some (.cells xs.toArray t (0, 0)) ∧ Fr (fun k => k = B) w y := by
  have hst := run_storeCells_at P B 0 t xs 0 cs w h (by omega) h1
  refine ⟨_, hst, ?_, Fr.setRow _ _ _ _ rfl⟩
  have e : (cs.toList.take (0 + 0) ++ xs ++ cs.toList.drop (0 + 0 + xs.length)).toArray = xs.toArray := by
    rw [hl]; simp
  rw [setRow_heap w B _ _ _ _ h, e]

theorem bit_one {x : Nat} (h : x < 256) : bits .and .u8 (x : Int) 1 = ((x % 2 : Nat) : Int) := by
  have h1 := bits_mask .u8 8 (by decide) wraps_u8 1 (by decide) (x : Int) (by omega) (by omega)
  have e : ((2 : Int) ^ 1 - 1) = 1 := by decide
  rw [e] at h1
  rw [h1]
  omega
theorem wrap_u16 (n : Int) (h₀ : 0 ≤ n) (h₁ : n < 2 ^ 16) : IntKind.u16.wrap n = n := by rw [IntKind.wrap_u16]; omega
theorem or_group {a b : Nat} (ha : a < 256) (hb : b < 256) : bits .or .u16 ((a * 256 : Nat) : Int) (b : Int) = ((a * 256 + b : Nat) : Int) := by
  have h := (bits_nat .u16 16 (by decide) wrap_u16 (a * 256) b (by omega) (by omega)).2
  rw [h]
  have : a * 256 ||| b = a * 256 + b := by
    have := Nat.two_pow_add_eq_or_of_lt (i := 8) (by omega : b < 2 ^ 8) a
    rw [show (2 : Nat) ^ 8 = 256 from rfl, Nat.mul_comm] at this
    rw [← this]
  rw [this]

theorem alloc2 (w : World) (o1 o2 : Obj) : ((w.alloc o1).alloc o2).heap[w.heap.size]? = some o1 ∧ ((w.alloc o1).alloc o2).heap[w.heap.size + 1]? = some o2 ∧ Fr No w ((w.alloc o1).alloc o2) := by
  refine ⟨(Fr.alloc No _ _).keep (heap_alloc_new w _), ?_, (Fr.alloc No _ _).trans (Fr.alloc No _ _)⟩
  have := heap_alloc_new (w.alloc o1) o2
  simpa using this
theorem alloc3 (w : World) (o1 o2 o3 : Obj) : (((w.alloc o1).alloc o2).alloc o3).heap[w.heap.size]? = some o1 ∧ (((w.alloc o1).alloc o2).alloc o3).heap[w.heap.size + 1]? = some o2 ∧ (((w.alloc o1).alloc o2).alloc o3).heap[w.heap.size + 1 + 1]? = some o3 ∧ Fr No w (((w.alloc o1).alloc o2).alloc o3) := by
  obtain ⟨h1, h2, h3⟩ := alloc2 w o1 o2
  refine ⟨(Fr.alloc No _ _).keep h1, (Fr.alloc No _ _).keep h2, ?_, h3.trans (Fr.alloc No _ _)⟩
  have := heap_alloc_new ((w.alloc o1).alloc o2) o3
  simpa using this
/-- Only draws. -/
theorem Fr.same {w w' : World} (h1 : w'.os = w.os) (h2 : w'.tape = w.tape) (h3 : w'.output = w.output) (h4 : w'.heap = w.heap) : Fr No w w' := ⟨h1, h2, h3, by rw [h4]; exact Nat.le_refl _, fun k _ _ => by rw [h4]⟩

/-- The program under a name of its own: the loaded program's rules do not reach it. -/
noncomputable def PD : Program := Tryd.prog

theorem at_prog {P : Program} (h : P = Tryd.prog) {f : Nat} {args : Array Value} {w : World} {R : Ending → World → Prop} (c : Calls Tryd.prog f args w R) : Calls P f args w R := by subst h; exact c

/-- A struct result that lies in a cell. -/
theorem results_agg {P : Program} {fn : Func} {n : Nat} {t : TypeId} (h : fn.results = #[.cell n t]) (tmps : Array Value) {w : World} {b k : Nat} {cs : Array Value} (hg : Sem.run P (isAgg t) w = .ok true w) (hz : Sem.run P (Go.sizeOf t) w = .ok k w)
    (hp : tmps.getD n undef = .pointer (some ⟨b, 0, none⟩)) (hl : Sem.run P (loadCellsFrom ⟨b, 0, none⟩ 0 k #[]) w = .ok cs w) :
    (results fn tmps).run P w = .ok (.agg cs) w := by
  simp only [results, h]
  simp [Sem.run_bind, Result.andThen, loadVar, loadCells] at hp ⊢
  simp [hp, asAddr, hg, hz, hl]
theorem results_agg_tmp {P : Program} {fn : Func} {n m : Nat} {t : TypeId} (h : fn.results = #[.cell n t, .tmp m]) (tmps : Array Value) {w : World} {b k : Nat} {cs : Array Value} (hg : Sem.run P (isAgg t) w = .ok true w) (hz : Sem.run P (Go.sizeOf t) w = .ok k w)
    (hp : tmps.getD n undef = .pointer (some ⟨b, 0, none⟩)) (hl : Sem.run P (loadCellsFrom ⟨b, 0, none⟩ 0 k #[]) w = .ok cs w) :
    (results fn tmps).run P w = .ok (.tuple #[.agg cs, tmps.getD m undef]) w := by
  simp only [results, h]
  simp [Sem.run_bind, Result.andThen, loadVar, loadCells] at hp ⊢
  simp [hp, asAddr, hg, hz, hl]

end Go.Proofs.YtdnfmilihfkhmaaDoor
