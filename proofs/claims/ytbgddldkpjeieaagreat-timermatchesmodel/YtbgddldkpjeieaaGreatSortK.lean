/-
  slices.SortFunc at the keys of the heap, over this seat's translation: the row holds a permutation of what it held, sorted by due time and handle.
  Conditions: the row lies in one block; fewer than 1000 keys.
-/
import Derived.Shelf.SlGeneric
import Derived.Shelf.SlSortCmp.WholeK
import Derived.Ground.SlsfProg
import Derived.Test.YtbgddldkpjeieaaGreatOrd3
import Derived.Sort.EveryDepth
namespace Go.Proofs.YtbgddldkpjeieaaGreat
open Go.Shelf
def sortKey_ren : Go.Shelf.Ren := ⟨fun | 6 => 62 | 15 => 61 | 14 => 78 | 28 => 76 | 29 => 77 | 20 => 91 | 21 => 92 | 22 => 93 | 23 => 94 | 24 => 95 | 25 => 96 | 26 => 97 | 27 => 98 | 46 => 102 | 47 => 86 | 48 => 87 | 49 => 103 | 50 => 104 | 57 => 106 | n => n, fun | 22 => 103 | 24 => 80 | 25 => 105 | 3 => 3 | 39 => 50 | 0 => 0 | 53 => 120 | 55 => 31 | 4 => 4 | 46 => 114 | 45 => 113 | 50 => 37 | 5 => 5 | 9 => 9 | 66 => 125 | 70 => 129 | 76 => 137 | 77 => 138 | n => n, fun | n => n⟩
theorem sortKey : Go.Proofs.SlLaysF0.n6 Tryz.prog sortKey_ren := {
  mixed := by kernel_rfl
  f6 := ⟨Tryz.f62.name, by decide, Tryz.func62.trans (congrArg some (by kernel_rfl))⟩
  f14 := ⟨Tryz.f78.name, by decide, Tryz.func78.trans (congrArg some (by kernel_rfl))⟩
  f15 := Tryz.func61.trans (congrArg some (by kernel_rfl))
  f20 := ⟨Tryz.f91.name, by decide, Tryz.func91.trans (congrArg some (by kernel_rfl))⟩
  f21 := ⟨Tryz.f92.name, by decide, Tryz.func92.trans (congrArg some (by kernel_rfl))⟩
  f22 := ⟨Tryz.f93.name, by decide, Tryz.func93.trans (congrArg some (by kernel_rfl))⟩
  f23 := ⟨Tryz.f94.name, by decide, Tryz.func94.trans (congrArg some (by kernel_rfl))⟩
  f24 := ⟨Tryz.f95.name, by decide, Tryz.func95.trans (congrArg some (by kernel_rfl))⟩
  f25 := ⟨Tryz.f96.name, by decide, Tryz.func96.trans (congrArg some (by kernel_rfl))⟩
  f26 := ⟨Tryz.f97.name, by decide, Tryz.func97.trans (congrArg some (by kernel_rfl))⟩
  f27 := ⟨Tryz.f98.name, by decide, Tryz.func98.trans (congrArg some (by kernel_rfl))⟩
  f28 := Tryz.func76.trans (congrArg some (by kernel_rfl))
  f29 := Tryz.func77.trans (congrArg some (by kernel_rfl))
  f46 := ⟨Tryz.f102.name, by decide, Tryz.func102.trans (congrArg some (by kernel_rfl))⟩
  f47 := Tryz.func86.trans (congrArg some (by kernel_rfl))
  f48 := Tryz.func87.trans (congrArg some (by kernel_rfl))
  f49 := ⟨Tryz.f103.name, by decide, Tryz.func103.trans (congrArg some (by kernel_rfl))⟩
  f50 := ⟨Tryz.f104.name, by decide, Tryz.func104.trans (congrArg some (by kernel_rfl))⟩
  f57 := ⟨Tryz.f106.name, by decide, Tryz.func106.trans (congrArg some (by kernel_rfl))⟩
  t0 := Tryz.underlying0
  a0 := Tryz.isAgg0
  z0 := Tryz.sizeOf0
  v0 := Tryz.zeroValue0
  t3 := Tryz.underlying3
  a3 := Tryz.isAgg3
  z3 := Tryz.sizeOf3
  v3 := Tryz.zeroValue3
  t4 := Tryz.underlying4
  a4 := Tryz.isAgg4
  z4 := Tryz.sizeOf4
  v4 := Tryz.zeroValue4
  t5 := Tryz.underlying5
  a5 := Tryz.isAgg5
  z5 := Tryz.sizeOf5
  v5 := Tryz.zeroValue5
  t9 := Tryz.underlying9
  a9 := Tryz.isAgg9
  z9 := Tryz.sizeOf9
  v9 := Tryz.zeroValue9
  t22 := Tryz.underlying103
  a22 := Tryz.isAgg103
  z22 := Tryz.sizeOf103
  v22 := Tryz.zeroValue103
  t25 := Tryz.underlying105
  a25 := Tryz.isAgg105
  z25 := Tryz.sizeOf105
  v25 := Tryz.zeroValue105
  t39 := Tryz.underlying50
  a39 := Tryz.isAgg50
  z39 := Tryz.sizeOf50
  v39 := Tryz.zeroValue50
  t45 := Tryz.underlying113
  a45 := Tryz.isAgg113
  z45 := Tryz.sizeOf113
  v45 := Tryz.zeroValue113
  t46 := Tryz.underlying114
  a46 := Tryz.isAgg114
  z46 := Tryz.sizeOf114
  v46 := Tryz.zeroValue114
  t50 := Tryz.underlying37
  a50 := Tryz.isAgg37
  z50 := Tryz.sizeOf37
  v50 := Tryz.zeroValue37
  t53 := Tryz.underlying120
  a53 := Tryz.isAgg120
  z53 := Tryz.sizeOf120
  v53 := Tryz.zeroValue120
  t55 := Tryz.underlying31
  a55 := Tryz.isAgg31
  z55 := Tryz.sizeOf31
  v55 := Tryz.zeroValue31
  t66 := Tryz.underlying125
  a66 := Tryz.isAgg125
  z66 := Tryz.sizeOf125
  v66 := Tryz.zeroValue125
  t70 := Tryz.underlying129
  a70 := Tryz.isAgg129
  z70 := Tryz.sizeOf129
  v70 := Tryz.zeroValue129
  t76 := Tryz.underlying137
  a76 := Tryz.isAgg137
  z76 := Tryz.sizeOf137
  v76 := Tryz.zeroValue137
  t77 := Tryz.underlying138
  a77 := Tryz.isAgg138
  z77 := Tryz.sizeOf138
  v77 := Tryz.zeroValue138 }

open Go.RowKit Go.Lib Go.Sort

def encK (e : Ent) : List Value := [.int .u64 e.due, .int .i64 e.id]
def cfK (x y : Ent) : Int := lexI x.due x.id y.due y.id

theorem ltK (x y : Ent) : ltOf cfK x y = decide (x.lt y) := lex_lt x y

theorem swoK : SWO (ltOf cfK) where
  irrefl x := by rw [ltK]; exact decide_eq_false (lt_irrefl' x)
  trans x y z h1 h2 := by rw [ltK] at *; exact decide_eq_true (lt_trans' (of_decide_eq_true h1) (of_decide_eq_true h2))
  ntrans x y z h1 h2 := by rw [ltK] at *; exact decide_eq_false (nlt_trans (of_decide_eq_false h1) (of_decide_eq_false h2))

theorem cmpLaysK (blk off size : Nat) (w : World) : CmpLays Tryz.prog 63 #[] encK 2 cfK blk off size w :=
  fun _ _ _ _ x y => compare_any x.due x.id y.due y.id _

set_option maxHeartbeats 1000000 in
theorem sortK_any (blk : Nat) (A : List Ent) (n : Nat) (w : World) (hn : A.length = n) (hH : HoldsK encK 2 w blk 0 A.toArray) (hblk : blk < w.heap.size) (hsz : n ≤ 1000) :
    Calls Tryz.prog 62 #[.slice (some ⟨blk, 0, none⟩) n n, .func (.func 63) #[] #[]] w fun e w' => e = .returned (.tuple #[]) ∧
      ∃ (S : List Ent), S.Perm A ∧ S.Pairwise (fun a b => ¬ b.lt a) ∧ HoldsK encK 2 w' blk 0 S.toArray ∧ Fr (fun k => k = blk) w w' := by
  have eg : ∀ args w, (callFunc 63 args).run Tryz.prog w = .ok (.enter 63 args) w := enters_of Tryz.func63 (by kernel_rfl) rfl
  have hcon := AnyQ.slices_SortFunc sortKey 2 Tryz.isAgg80 Tryz.sizeOf80 encK (fun _ => rfl) (fun x v hv => by simp [encK] at hv; rcases hv with rfl | rfl <;> rfl) cfK swoK 63 #[] blk 0 n A.toArray w eg (cmpLaysK blk 0 _ w) hH hblk (by simp; omega)
  change Calls Tryz.prog 62 _ _ _ at hcon
  have hsz' : A.toArray.size = n := by simpa using hn
  rw [hsz'] at hcon
  refine hcon.mono ?_
  rintro e w' ⟨rfl, d', m, os, hp, hs, rfl⟩
  have hd : d'.size = n := hp.1.trans hsz'
  refine ⟨rfl, d'.toList, ?_, ?_, ?_, ?_⟩
  · have := hp.2.2
    rw [Array.extract_eq_self_of_le (by omega), Array.extract_eq_self_of_le (by omega)] at this
    simpa using this
  · rw [List.pairwise_iff_getElem]
    intro i j hi hj hij
    have := hs i j (Nat.zero_le _) hij (by simpa [hd] using hj)
    rw [ltK] at this
    have h2 := of_decide_eq_false this
    rw [getElem!_pos d' i (by simpa using hi), getElem!_pos d' j (by simpa using hj)] at h2
    simpa using h2
  · have := holdsK_sortWorldK_c encK 2 w blk 0 A.toArray d' m os hH hblk (hd.trans hsz'.symm)
    simpa using this
  · unfold sortWorldK
    refine ⟨rfl, rfl, rfl, by simp [Go.Sort.grow, putRowK, putRow, mapBlock], fun k hk hne => ?_⟩
    have hk' : k ≠ blk := hne
    rw [heap_grow_old _ _ (by rw [size_putRowK]; exact hk)]
    simp only [putRowK, putRow, mapBlock, Array.getElem?_modify]
    rw [if_neg (Ne.symm hk')]
    rfl

/-! ### rows of keys and of handles -/

def KeyRow (w : World) (kb n : Nat) (B : List Ent) : Prop := ∃ c : Array Value, w.heap[kb]? = some (.cells c 80 (0, 0)) ∧ c.size = n * 2 ∧ ∀ (i : Nat) (e : Ent), B[i]? = some e → c[i * 2]? = some (.int .u64 e.due) ∧ c[i * 2 + 1]? = some (.int .i64 e.id)
def IdRow (w : World) (rb n : Nat) (B : List Ent) : Prop := ∃ c : Array Value, w.heap[rb]? = some (.cells c 3 (0, 0)) ∧ c.size = n ∧ ∀ (i : Nat) (e : Ent), B[i]? = some e → c[i]? = some (.int .i64 e.id)

section
variable {w w' : World} {kb rb n : Nat} {B : List Ent}
theorem KeyRow.keep (h : KeyRow w kb n B) (hk : w'.heap[kb]? = w.heap[kb]?) : KeyRow w' kb n B := by obtain ⟨c, h1, h2⟩ := h; exact ⟨c, hk.trans h1, h2⟩
theorem IdRow.keep (h : IdRow w rb n B) (hk : w'.heap[rb]? = w.heap[rb]?) : IdRow w' rb n B := by obtain ⟨c, h1, h2⟩ := h; exact ⟨c, hk.trans h1, h2⟩
theorem KeyRow.lt (h : KeyRow w kb n B) : kb < w.heap.size := by obtain ⟨c, h1, h2⟩ := h; exact (Array.getElem?_eq_some_iff.1 h1).1
theorem IdRow.lt (h : IdRow w rb n B) : rb < w.heap.size := by obtain ⟨c, h1, h2⟩ := h; exact (Array.getElem?_eq_some_iff.1 h1).1
theorem KeyRow.made (w : World) (z : Array Value) (n : Nat) : KeyRow (w.alloc (.cells (madeCells z (n * 2)) 80)) w.heap.size n [] := ⟨_, heap_alloc_new w _, size_madeCells _ _, fun i e h => by simp at h⟩
theorem IdRow.made (w : World) (z : Array Value) (n : Nat) : IdRow (w.alloc (.cells (madeCells z n) 3)) w.heap.size n [] := ⟨_, heap_alloc_new w _, size_madeCells _ _, fun i e h => by simp at h⟩
theorem KeyRow.there (h : KeyRow w kb n B) (i : Nat) (hi : i < n) : (∃ v, w.cell? ⟨kb, i * 2, none⟩ = some v) ∧ (∃ v, w.cell? ⟨kb, i * 2 + 1, none⟩ = some v) ∧ w.frozen? ⟨kb, i * 2, none⟩ = false ∧ w.frozen? ⟨kb, i * 2 + 1, none⟩ = false := by
  obtain ⟨c, h1, h2, h3⟩ := h
  rw [cell_of_row w kb _ c _ _ h1, cell_of_row w kb _ c _ _ h1, frozen_of_row w kb _ c _ h1, frozen_of_row w kb _ c _ h1]
  exact ⟨⟨_, Array.getElem?_eq_getElem (by omega)⟩, ⟨_, Array.getElem?_eq_getElem (by omega)⟩, rfl, rfl⟩
theorem IdRow.there (h : IdRow w rb n B) (i : Nat) (hi : i < n) : (∃ v, w.cell? ⟨rb, i, none⟩ = some v) ∧ w.frozen? ⟨rb, i, none⟩ = false := by
  obtain ⟨c, h1, h2, h3⟩ := h
  rw [cell_of_row w rb _ c _ _ h1, frozen_of_row w rb _ c _ h1]
  exact ⟨⟨_, Array.getElem?_eq_getElem (by omega)⟩, rfl⟩
theorem IdRow.cell (h : IdRow w rb n B) {i : Nat} {e : Ent} (hi : B[i]? = some e) : w.cell? ⟨rb, i, none⟩ = some (.int .i64 e.id) := by
  obtain ⟨c, h1, h2, h3⟩ := h
  rw [cell_of_row w rb _ c _ _ h1]
  exact h3 i e hi
theorem take_succ_get {A : List Ent} {i : Nat} {e : Ent} (hi : A[i]? = some e) {k : Nat} {b : Ent} (hk : (A.take (i + 1))[k]? = some b) : (k = i ∧ b = e) ∨ (k < i ∧ (A.take i)[k]? = some b) := by
  obtain ⟨h1, h2⟩ := take_get hk
  by_cases hki : k = i
  · subst hki; rw [hi] at h2; cases h2; exact .inl ⟨rfl, rfl⟩
  · exact .inr ⟨by omega, by rw [List.getElem?_take, if_pos (by omega)]; exact h2⟩
theorem KeyRow.step {A : List Ent} {i : Nat} {e : Ent} (h : KeyRow w kb n (A.take i)) (hi : A[i]? = some e) (hn : i < n) :
    KeyRow ((w.setCell ⟨kb, i * 2, none⟩ (.int .u64 e.due)).setCell ⟨kb, i * 2 + 1, none⟩ (.int .i64 e.id)) kb n (A.take (i + 1)) := by
  obtain ⟨c, h1, h2, h3⟩ := h
  refine ⟨_, heap_setCell_same _ kb _ _ _ _ (heap_setCell_same w kb _ c _ _ h1), by simpa using h2, ?_⟩
  intro k b hk
  rcases take_succ_get hi hk with ⟨rfl, rfl⟩ | ⟨hlt, hb⟩
  · simp only [Array.getElem?_setIfInBounds, Array.size_setIfInBounds]
    refine ⟨?_, ?_⟩
    · rw [if_neg (by omega), if_pos trivial, if_pos (by omega)]
    · rw [if_pos trivial, if_pos (by omega)]
  · have := h3 k b hb
    simp only [Array.getElem?_setIfInBounds, Array.size_setIfInBounds]
    rw [if_neg (by omega), if_neg (by omega), if_neg (by omega), if_neg (by omega)]
    exact this
theorem IdRow.step {A : List Ent} {i : Nat} {e : Ent} (h : IdRow w rb n (A.take i)) (hi : A[i]? = some e) (hn : i < n) : IdRow (w.setCell ⟨rb, i, none⟩ (.int .i64 e.id)) rb n (A.take (i + 1)) := by
  obtain ⟨c, h1, h2, h3⟩ := h
  refine ⟨_, heap_setCell_same w rb _ c _ _ h1, by simpa using h2, ?_⟩
  intro k b hk
  rcases take_succ_get hi hk with ⟨rfl, rfl⟩ | ⟨hlt, hb⟩
  · simp only [Array.getElem?_setIfInBounds]
    rw [if_pos trivial, if_pos (by omega)]
  · have := h3 k b hb
    simp only [Array.getElem?_setIfInBounds]
    rw [if_neg (by omega)]
    exact this

theorem KeyRow.holds {A : List Ent} (h : KeyRow w kb n A) (hn : A.length = n) : HoldsK encK 2 w kb 0 A.toArray := by
  obtain ⟨c, h1, h2, h3⟩ := h
  intro j hj
  rw [size_flatK] at hj
  have hj' : j < A.toArray.size * 2 := hj
  rw [get_flatK _ _ _ _ hj', cell_of_row w kb _ c _ _ h1, frozen_of_row w kb _ c _ h1, Nat.zero_add]
  refine ⟨?_, rfl⟩
  have hl : j / 2 < A.length := by simp at hj'; omega
  have he : A[j / 2]? = some A[j / 2] := List.getElem?_eq_getElem hl
  have h4 := h3 _ _ he
  have e1 : A.toArray[j / 2]! = A[j / 2] := by rw [getElem!_pos _ _ (by simpa using hl)]; simp
  rw [e1]
  rcases Nat.mod_two_eq_zero_or_one j with hm | hm
  · rw [hm]
    have : j = j / 2 * 2 := by omega
    rw [show c[j]? = c[j / 2 * 2]? from congrArg (fun x => c[x]?) this, h4.1]
    rfl
  · rw [hm]
    have : j = j / 2 * 2 + 1 := by omega
    rw [show c[j]? = c[j / 2 * 2 + 1]? from congrArg (fun x => c[x]?) this, h4.2]
    rfl

theorem holds_cell {S : List Ent} (h : HoldsK encK 2 w kb 0 S.toArray) {i : Nat} {e : Ent} (hi : S[i]? = some e) : w.cell? ⟨kb, i * 2, none⟩ = some (.int .u64 e.due) ∧ w.cell? ⟨kb, i * 2 + 1, none⟩ = some (.int .i64 e.id) := by
  have hl := (List.getElem?_eq_some_iff.1 hi).1
  have h0 := (h.cell (i := i) (c := 0) (by simpa using hl) (by omega)).1
  have h1 := (h.cell (i := i) (c := 1) (by simpa using hl) (by omega)).1
  have e1 : S.toArray[i]! = e := by rw [getElem!_pos _ _ (by simpa using hl)]; simpa using (List.getElem?_eq_some_iff.1 hi).2
  rw [e1] at h0 h1
  simp only [Nat.zero_add, Nat.add_zero] at h0 h1
  exact ⟨h0, h1⟩
end

theorem Fr.setNew {S : Nat → Prop} {w w' : World} (h : Fr S w w') {a : Addr} (ha : w.heap.size ≤ a.block) (u : Value) : Fr S w (w'.setCell a u) :=
  ⟨h.os, h.tape, h.output, by simpa [World.setCell] using h.size, fun k hk hs => (Below.heap_setCell _ _ _ _ (by omega)).trans (h.block k hk hs)⟩
theorem Fr.ofNew {S T : Nat → Prop} {a b c : World} (h : Fr S a b) (k : Fr T b c) (hT : ∀ k, T k → S k ∨ a.heap.size ≤ k) : Fr S a c :=
  ⟨k.os.trans h.os, k.tape.trans h.tape, k.output.trans h.output, Nat.le_trans h.size k.size, fun i hi hs => (k.block i (Nat.lt_of_lt_of_le hi h.size) (fun ht => by rcases hT i ht with h1 | h1; exact hs h1; omega)).trans (h.block i hi hs)⟩

end Go.Proofs.YtbgddldkpjeieaaGreat
