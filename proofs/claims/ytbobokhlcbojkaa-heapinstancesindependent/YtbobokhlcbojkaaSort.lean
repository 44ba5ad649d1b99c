/-
  slices.SortFunc at the keys of the heap, over this seat's translation: the row holds a permutation of what it held, sorted by due time and handle.
  Conditions: the row lies in one block; fewer than 1000 keys.
-/
import Derived.Shelf.SlGeneric
import Derived.Shelf.SlSortCmp.WholeK
import Derived.Ground.SlsfProg
import Derived.Test.YtbobokhlcbojkaaOrd3
namespace Go.Proofs.Ytbobokhlcbojkaa
open Go.Shelf
def sortKey_ren : Go.Shelf.Ren := ⟨fun | 6 => 47 | 15 => 63 | 14 => 62 | 28 => 84 | 29 => 85 | 20 => 76 | 21 => 77 | 22 => 78 | 23 => 79 | 24 => 80 | 25 => 81 | 26 => 82 | 27 => 83 | 46 => 90 | 47 => 91 | 48 => 92 | 49 => 93 | 50 => 94 | 57 => 95 | n => n, fun | 22 => 84 | 24 => 78 | 25 => 86 | 3 => 3 | 39 => 76 | 0 => 0 | 53 => 117 | 55 => 29 | 4 => 4 | 46 => 111 | 45 => 110 | 50 => 81 | 5 => 5 | 9 => 9 | 66 => 120 | 70 => 124 | 76 => 126 | 77 => 127 | n => n, fun | n => n⟩
theorem sortKey : Go.Proofs.SlLaysF0.n6 Try.prog sortKey_ren := {
  mixed := by kernel_rfl
  f6 := ⟨Try.f47.name, by decide, Try.func47.trans (congrArg some (by kernel_rfl))⟩
  f14 := ⟨Try.f62.name, by decide, Try.func62.trans (congrArg some (by kernel_rfl))⟩
  f15 := Try.func63.trans (congrArg some (by kernel_rfl))
  f20 := ⟨Try.f76.name, by decide, Try.func76.trans (congrArg some (by kernel_rfl))⟩
  f21 := ⟨Try.f77.name, by decide, Try.func77.trans (congrArg some (by kernel_rfl))⟩
  f22 := ⟨Try.f78.name, by decide, Try.func78.trans (congrArg some (by kernel_rfl))⟩
  f23 := ⟨Try.f79.name, by decide, Try.func79.trans (congrArg some (by kernel_rfl))⟩
  f24 := ⟨Try.f80.name, by decide, Try.func80.trans (congrArg some (by kernel_rfl))⟩
  f25 := ⟨Try.f81.name, by decide, Try.func81.trans (congrArg some (by kernel_rfl))⟩
  f26 := ⟨Try.f82.name, by decide, Try.func82.trans (congrArg some (by kernel_rfl))⟩
  f27 := ⟨Try.f83.name, by decide, Try.func83.trans (congrArg some (by kernel_rfl))⟩
  f28 := Try.func84.trans (congrArg some (by kernel_rfl))
  f29 := Try.func85.trans (congrArg some (by kernel_rfl))
  f46 := ⟨Try.f90.name, by decide, Try.func90.trans (congrArg some (by kernel_rfl))⟩
  f47 := Try.func91.trans (congrArg some (by kernel_rfl))
  f48 := Try.func92.trans (congrArg some (by kernel_rfl))
  f49 := ⟨Try.f93.name, by decide, Try.func93.trans (congrArg some (by kernel_rfl))⟩
  f50 := ⟨Try.f94.name, by decide, Try.func94.trans (congrArg some (by kernel_rfl))⟩
  f57 := ⟨Try.f95.name, by decide, Try.func95.trans (congrArg some (by kernel_rfl))⟩
  t0 := Try.underlying0
  a0 := Try.isAgg0
  z0 := Try.sizeOf0
  v0 := Try.zeroValue0
  t3 := Try.underlying3
  a3 := Try.isAgg3
  z3 := Try.sizeOf3
  v3 := Try.zeroValue3
  t4 := Try.underlying4
  a4 := Try.isAgg4
  z4 := Try.sizeOf4
  v4 := Try.zeroValue4
  t5 := Try.underlying5
  a5 := Try.isAgg5
  z5 := Try.sizeOf5
  v5 := Try.zeroValue5
  t9 := Try.underlying9
  a9 := Try.isAgg9
  z9 := Try.sizeOf9
  v9 := Try.zeroValue9
  t22 := Try.underlying84
  a22 := Try.isAgg84
  z22 := Try.sizeOf84
  v22 := Try.zeroValue84
  t25 := Try.underlying86
  a25 := Try.isAgg86
  z25 := Try.sizeOf86
  v25 := Try.zeroValue86
  t39 := Try.underlying76
  a39 := Try.isAgg76
  z39 := Try.sizeOf76
  v39 := Try.zeroValue76
  t45 := Try.underlying110
  a45 := Try.isAgg110
  z45 := Try.sizeOf110
  v45 := Try.zeroValue110
  t46 := Try.underlying111
  a46 := Try.isAgg111
  z46 := Try.sizeOf111
  v46 := Try.zeroValue111
  t50 := Try.underlying81
  a50 := Try.isAgg81
  z50 := Try.sizeOf81
  v50 := Try.zeroValue81
  t53 := Try.underlying117
  a53 := Try.isAgg117
  z53 := Try.sizeOf117
  v53 := Try.zeroValue117
  t55 := Try.underlying29
  a55 := Try.isAgg29
  z55 := Try.sizeOf29
  v55 := Try.zeroValue29
  t66 := Try.underlying120
  a66 := Try.isAgg120
  z66 := Try.sizeOf120
  v66 := Try.zeroValue120
  t70 := Try.underlying124
  a70 := Try.isAgg124
  z70 := Try.sizeOf124
  v70 := Try.zeroValue124
  t76 := Try.underlying126
  a76 := Try.isAgg126
  z76 := Try.sizeOf126
  v76 := Try.zeroValue126
  t77 := Try.underlying127
  a77 := Try.isAgg127
  z77 := Try.sizeOf127
  v77 := Try.zeroValue127 }

open Go.RowKit Go.Lib Go.Sort

def encK (e : Ent) : List Value := [.int .u64 e.due, .int .i64 e.id]
def cfK (x y : Ent) : Int := lexI x.due x.id y.due y.id

theorem ltK (x y : Ent) : ltOf cfK x y = decide (x.lt y) := lex_lt x y

theorem swoK : SWO (ltOf cfK) where
  irrefl x := by rw [ltK]; exact decide_eq_false (lt_irrefl' x)
  trans x y z h1 h2 := by rw [ltK] at *; exact decide_eq_true (lt_trans' (of_decide_eq_true h1) (of_decide_eq_true h2))
  ntrans x y z h1 h2 := by rw [ltK] at *; exact decide_eq_false (nlt_trans (of_decide_eq_false h1) (of_decide_eq_false h2))

theorem cmpLaysK (blk off size : Nat) (w : World) : CmpLays Try.prog 48 #[] encK 2 cfK blk off size w :=
  fun _ _ _ _ x y => compare_any x.due x.id y.due y.id _

set_option maxHeartbeats 1000000 in
theorem sort_any (blk : Nat) (A : List Ent) (n : Nat) (w : World) (hn : A.length = n) (hH : HoldsK encK 2 w blk 0 A.toArray) (hblk : blk < w.heap.size) (hsz : n ≤ 1000) :
    Calls Try.prog 47 #[.slice (some ⟨blk, 0, none⟩) n n, .func (.func 48) #[] #[]] w fun e w' => e = .returned (.tuple #[]) ∧
      ∃ (S : List Ent), S.Perm A ∧ S.Pairwise (fun a b => ¬ b.lt a) ∧ HoldsK encK 2 w' blk 0 S.toArray ∧ Fr (fun k => k = blk) w w' := by
  have eg : ∀ args w, (callFunc 48 args).run Try.prog w = .ok (.enter 48 args) w := enters_of Try.func48 (by kernel_rfl) rfl
  have hcon := AnyQ.slices_SortFunc sortKey 2 Try.isAgg78 Try.sizeOf78 encK (fun _ => rfl) (fun x v hv => by simp [encK] at hv; rcases hv with rfl | rfl <;> rfl) cfK swoK 48 #[] blk 0 n A.toArray w eg (cmpLaysK blk 0 _ w) hH hblk (by simp; omega)
  change Calls Try.prog 47 _ _ _ at hcon
  have hsz' : A.toArray.size = n := by simpa using hn
  rw [hsz'] at hcon
  refine hcon.mono ?_
  rintro e w' ⟨rfl, d', m, os, hp, hs, rfl⟩
  have hd : d'.size = n := hp.1.trans hsz'
  refine ⟨rfl, d'.toList, ?_, ?_, ?_, ?_⟩
  · have := hp.2.2
    rw [Array.extract_eq_self_of_le (by omega), Array.extract_eq_self_of_le (by omega)] at this
    simpa using this
  · rw [List.pairwise_iff_getElem]
    intro i j hi hj hij
    have := hs i j (Nat.zero_le _) hij (by simpa [hd] using hj)
    rw [ltK] at this
    have h2 := of_decide_eq_false this
    rw [getElem!_pos d' i (by simpa using hi), getElem!_pos d' j (by simpa using hj)] at h2
    simpa using h2
  · have := holdsK_sortWorldK_c encK 2 w blk 0 A.toArray d' m os hH hblk (hd.trans hsz'.symm)
    simpa using this
  · unfold sortWorldK
    refine ⟨rfl, rfl, rfl, by simp [Go.Sort.grow, putRowK, putRow, mapBlock], fun k hk hne => ?_⟩
    have hk' : k ≠ blk := hne
    rw [heap_grow_old _ _ (by rw [size_putRowK]; exact hk)]
    simp only [putRowK, putRow, mapBlock, Array.getElem?_modify]
    rw [if_neg (Ne.symm hk')]
    rfl

/-! ### rows of keys and of handles -/

def KeyRow (w : World) (kb n : Nat) (B : List Ent) : Prop := ∃ c : Array Value, w.heap[kb]? = some (.cells c 78 (0, 0)) ∧ c.size = n * 2 ∧ ∀ (i : Nat) (e : Ent), B[i]? = some e → c[i * 2]? = some (.int .u64 e.due) ∧ c[i * 2 + 1]? = some (.int .i64 e.id)
def IdRow (w : World) (rb n : Nat) (B : List Ent) : Prop := ∃ c : Array Value, w.heap[rb]? = some (.cells c 3 (0, 0)) ∧ c.size = n ∧ ∀ (i : Nat) (e : Ent), B[i]? = some e → c[i]? = some (.int .i64 e.id)

section
variable {w w' : World} {kb rb n : Nat} {B : List Ent}
theorem KeyRow.keep (h : KeyRow w kb n B) (hk : w'.heap[kb]? = w.heap[kb]?) : KeyRow w' kb n B := by obtain ⟨c, h1, h2⟩ := h; exact ⟨c, hk.trans h1, h2⟩
theorem IdRow.keep (h : IdRow w rb n B) (hk : w'.heap[rb]? = w.heap[rb]?) : IdRow w' rb n B := by obtain ⟨c, h1, h2⟩ := h; exact ⟨c, hk.trans h1, h2⟩
theorem KeyRow.lt (h : KeyRow w kb n B) : kb < w.heap.size := by obtain ⟨c, h1, h2⟩ := h; exact (Array.getElem?_eq_some_iff.1 h1).1
theorem IdRow.lt (h : IdRow w rb n B) : rb < w.heap.size := by obtain ⟨c, h1, h2⟩ := h; exact (Array.getElem?_eq_some_iff.1 h1).1
theorem KeyRow.made (w : World) (z : Array Value) (n : Nat) : KeyRow (w.alloc (.cells (madeCells z (n * 2)) 78)) w.heap.size n [] := ⟨_, heap_alloc_new w _, size_madeCells _ _, fun i e h => by simp at h⟩
theorem IdRow.made (w : World) (z : Array Value) (n : Nat) : IdRow (w.alloc (.cells (madeCells z n) 3)) w.heap.size n [] := ⟨_, heap_alloc_new w _, size_madeCells _ _, fun i e h => by simp at h⟩
theorem KeyRow.there (h : KeyRow w kb n B) (i : Nat) (hi : i < n) : (∃ v, w.cell? ⟨kb, i * 2, none⟩ = some v) ∧ (∃ v, w.cell? ⟨kb, i * 2 + 1, none⟩ = some v) ∧ w.frozen? ⟨kb, i * 2, none⟩ = false ∧ w.frozen? ⟨kb, i * 2 + 1, none⟩ = false := by
  obtain ⟨c, h1, h2, h3⟩ := h
  rw [cell_of_row w kb _ c _ _ h1, cell_of_row w kb _ c _ _ h1, frozen_of_row w kb _ c _ h1, frozen_of_row w kb _ c _ h1]
  exact ⟨⟨_, Array.getElem?_eq_getElem (by omega)⟩, ⟨_, Array.getElem?_eq_getElem (by omega)⟩, rfl, rfl⟩
theorem IdRow.there (h : IdRow w rb n B) (i : Nat) (hi : i < n) : (∃ v, w.cell? ⟨rb, i, none⟩ = some v) ∧ w.frozen? ⟨rb, i, none⟩ = false := by
  obtain ⟨c, h1, h2, h3⟩ := h
  rw [cell_of_row w rb _ c _ _ h1, frozen_of_row w rb _ c _ h1]
  exact ⟨⟨_, Array.getElem?_eq_getElem (by omega)⟩, rfl⟩
theorem IdRow.cell (h : IdRow w rb n B) {i : Nat} {e : Ent} (hi : B[i]? = some e) : w.cell? ⟨rb, i, none⟩ = some (.int .i64 e.id) := by
  obtain ⟨c, h1, h2, h3⟩ := h
  rw [cell_of_row w rb _ c _ _ h1]
  exact h3 i e hi
theorem take_succ_get {A : List Ent} {i : Nat} {e : Ent} (hi : A[i]? = some e) {k : Nat} {b : Ent} (hk : (A.take (i + 1))[k]? = some b) : (k = i ∧ b = e) ∨ (k < i ∧ (A.take i)[k]? = some b) := by
  obtain ⟨h1, h2⟩ := take_get hk
  by_cases hki : k = i
  · subst hki; rw [hi] at h2; cases h2; exact .inl ⟨rfl, rfl⟩
  · exact .inr ⟨by omega, by rw [List.getElem?_take, if_pos (by omega)]; exact h2⟩
theorem KeyRow.step {A : List Ent} {i : Nat} {e : Ent} (h : KeyRow w kb n (A.take i)) (hi : A[i]? = some e) (hn : i < n) :
    KeyRow ((w.setCell ⟨kb, i * 2, none⟩ (.int .u64 e.due)).setCell ⟨kb, i * 2 + 1, none⟩ (.int .i64 e.id)) kb n (A.take (i + 1)) := by
  obtain ⟨c, h1, h2, h3⟩ := h
  refine ⟨_, heap_setCell_same _ kb _ _ _ _ (heap_setCell_same w kb _ c _ _ h1), by simpa using h2, ?_⟩
  intro k b hk
  rcases take_succ_get hi hk with ⟨rfl, rfl⟩ | ⟨hlt, hb⟩
  · simp only [Array.getElem?_setIfInBounds, Array.size_setIfInBounds]
    refine ⟨?_, ?_⟩
    · rw [if_neg (by omega), if_pos trivial, if_pos (by omega)]
    · rw [if_pos trivial, if_pos (by omega)]
  · have := h3 k b hb
    simp only [Array.getElem?_setIfInBounds, Array.size_setIfInBounds]
    rw [if_neg (by omega), if_neg (by omega), if_neg (by omega), if_neg (by omega)]
    exact this
theorem IdRow.step {A : List Ent} {i : Nat} {e : Ent} (h : IdRow w rb n (A.take i)) (hi : A[i]? = some e) (hn : i < n) : IdRow (w.setCell ⟨rb, i, none⟩ (.int .i64 e.id)) rb n (A.take (i + 1)) := by
  obtain ⟨c, h1, h2, h3⟩ := h
  refine ⟨_, heap_setCell_same w rb _ c _ _ h1, by simpa using h2, ?_⟩
  intro k b hk
  rcases take_succ_get hi hk with ⟨rfl, rfl⟩ | ⟨hlt, hb⟩
  · simp only [Array.getElem?_setIfInBounds]
    rw [if_pos trivial, if_pos (by omega)]
  · have := h3 k b hb
    simp only [Array.getElem?_setIfInBounds]
    rw [if_neg (by omega)]
    exact this

theorem KeyRow.holds {A : List Ent} (h : KeyRow w kb n A) (hn : A.length = n) : HoldsK encK 2 w kb 0 A.toArray := by
  obtain ⟨c, h1, h2, h3⟩ := h
  intro j hj
  rw [size_flatK] at hj
  have hj' : j < A.toArray.size * 2 := hj
  rw [get_flatK _ _ _ _ hj', cell_of_row w kb _ c _ _ h1, frozen_of_row w kb _ c _ h1, Nat.zero_add]
  refine ⟨?_, rfl⟩
  have hl : j / 2 < A.length := by simp at hj'; omega
  have he : A[j / 2]? = some A[j / 2] := List.getElem?_eq_getElem hl
  have h4 := h3 _ _ he
  have e1 : A.toArray[j / 2]! = A[j / 2] := by rw [getElem!_pos _ _ (by simpa using hl)]; simp
  rw [e1]
  rcases Nat.mod_two_eq_zero_or_one j with hm | hm
  · rw [hm]
    have : j = j / 2 * 2 := by omega
    rw [show c[j]? = c[j / 2 * 2]? from congrArg (fun x => c[x]?) this, h4.1]
    rfl
  · rw [hm]
    have : j = j / 2 * 2 + 1 := by omega
    rw [show c[j]? = c[j / 2 * 2 + 1]? from congrArg (fun x => c[x]?) this, h4.2]
    rfl

theorem holds_cell {S : List Ent} (h : HoldsK encK 2 w kb 0 S.toArray) {i : Nat} {e : Ent} (hi : S[i]? = some e) : w.cell? ⟨kb, i * 2, none⟩ = some (.int .u64 e.due) ∧ w.cell? ⟨kb, i * 2 + 1, none⟩ = some (.int .i64 e.id) := by
  have hl := (List.getElem?_eq_some_iff.1 hi).1
  have h0 := (h.cell (i := i) (c := 0) (by simpa using hl) (by omega)).1
  have h1 := (h.cell (i := i) (c := 1) (by simpa using hl) (by omega)).1
  have e1 : S.toArray[i]! = e := by rw [getElem!_pos _ _ (by simpa using hl)]; simpa using (List.getElem?_eq_some_iff.1 hi).2
  rw [e1] at h0 h1
  simp only [Nat.zero_add, Nat.add_zero] at h0 h1
  exact ⟨h0, h1⟩
end

theorem Fr.setNew {S : Nat → Prop} {w w' : World} (h : Fr S w w') {a : Addr} (ha : w.heap.size ≤ a.block) (u : Value) : Fr S w (w'.setCell a u) :=
  ⟨h.os, h.tape, h.output, by simpa [World.setCell] using h.size, fun k hk hs => (Below.heap_setCell _ _ _ _ (by omega)).trans (h.block k hk hs)⟩
theorem Fr.ofNew {S T : Nat → Prop} {a b c : World} (h : Fr S a b) (k : Fr T b c) (hT : ∀ k, T k → S k ∨ a.heap.size ≤ k) : Fr S a c :=
  ⟨k.os.trans h.os, k.tape.trans h.tape, k.output.trans h.output, Nat.le_trans h.size k.size, fun i hi hs => (k.block i (Nat.lt_of_lt_of_le hi h.size) (fun ht => by rcases hT i ht with h1 | h1; exact hs h1; omega)).trans (h.block i hi hs)⟩

end Go.Proofs.Ytbobokhlcbojkaa
