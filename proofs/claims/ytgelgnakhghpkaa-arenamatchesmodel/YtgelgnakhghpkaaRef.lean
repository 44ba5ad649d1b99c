/-
  How the reference arena lies in memory; what ties it to the arena; no walk.
  Conditions: as each theorem says.
-/
import Derived.Test.YtgelgnakhghpkaaLow
namespace Go.Proofs.Ytgelgnakhghpkaa
open Go.ChangeShapes Go.WideShapes Go.ChangeAt Go.RowKit
set_option linter.unusedVariables false

structure RS where
  gen : Int
  used : Bool
  val : Int

def encR (s : RS) : List Value := [.int .i64 s.gen, .bool s.used, .int .i64 s.val]

def flatR : List RS → List Value
  | [] => []
  | s :: A => encR s ++ flatR A

theorem flatR_length (A : List RS) : (flatR A).length = A.length * 3 := by
  induction A with
  | nil => rfl
  | cons s A ih => simp [flatR, encR, ih]; omega

theorem flatR_get : ∀ (A : List RS) (i : Nat) (s : RS), A[i]? = some s → ∀ (j : Nat) (v : Value), (encR s)[j]? = some v → (flatR A)[i * 3 + j]? = some v := by
  intro A
  induction A with
  | nil => intro i s hi; simp at hi
  | cons a A ih =>
    intro i s hi j v hv
    have ha : (encR a).length = 3 := rfl
    cases i with
    | zero =>
      simp at hi
      subst hi
      have hj := (List.getElem?_eq_some_iff.1 hv).1
      rw [flatR, List.getElem?_append_left (by omega)]
      simpa using hv
    | succ i =>
      rw [flatR, List.getElem?_append_right (by omega), ha, show (i + 1) * 3 + j - 3 = i * 3 + j by omega]
      exact ih i s (by simpa using hi) j v hv

theorem flatR_set : ∀ (A : List RS) (i j : Nat) (s s' : RS) (v : Value), A[i]? = some s → j < 3 → encR s' = (encR s).set j v → (flatR A).set (i * 3 + j) v = flatR (A.set i s') := by
  intro A
  induction A with
  | nil => intro i j s s' v hi; simp at hi
  | cons a A ih =>
    intro i j s s' v hi hj he
    have ha : (encR a).length = 3 := rfl
    cases i with
    | zero =>
      simp at hi
      subst hi
      rw [flatR, List.set_cons_zero, flatR, List.set_append_left _ _ (by omega), he]
      simp
    | succ i =>
      rw [flatR, List.set_cons_succ, flatR, List.set_append_right _ _ (by omega), ha, show (i + 1) * 3 + j - 3 = i * 3 + j by omega, ih i j s s' v (by simpa using hi) hj he]

structure RefAt (w : World) (xb g k : Nat) (R : List RS) (B : Int) : Prop where
  hdr : w.heap[xb]? = some (.cells #[.slice (some ⟨g, 0, none⟩) k k] 36 (0, 0))
  row : w.heap[g]? = some (.cells (flatR R).toArray 45 (0, 0))
  len : R.length = k
  ne : g ≠ xb
  gen : ∀ s ∈ R, 0 ≤ s.gen ∧ s.gen ≤ B
  small : k ≤ 8

section
variable {w w' : World} {xb g k : Nat} {R : List RS} {B : Int}

theorem RefAt.keep (h : RefAt w xb g k R B) (hx : w'.heap[xb]? = w.heap[xb]?) (hg : w'.heap[g]? = w.heap[g]?) : RefAt w' xb g k R B :=
  { h with hdr := hx.trans h.hdr, row := hg.trans h.row }
theorem RefAt.xlt (h : RefAt w xb g k R B) : xb < w.heap.size := (Array.getElem?_eq_some_iff.1 h.hdr).1
theorem RefAt.glt (h : RefAt w xb g k R B) : g < w.heap.size := (Array.getElem?_eq_some_iff.1 h.row).1
theorem RefAt.frNo (h : RefAt w xb g k R B) (hf : Fr No w w') : RefAt w' xb g k R B := h.keep (hf.block xb h.xlt (fun h => h)) (hf.block g h.glt (fun h => h))

theorem RefAt.hcell (h : RefAt w xb g k R B) : w.cell? ⟨xb, 0, none⟩ = some (.slice (some ⟨g, 0, none⟩) k k) := by rw [cell_of_row w xb _ _ _ _ h.hdr]; rfl

theorem RefAt.ecells (h : RefAt w xb g k R B) {i : Nat} {s : RS} (hi : R[i]? = some s) : w.cell? ⟨g, i * 3, none⟩ = some (.int .i64 s.gen) ∧ w.cell? ⟨g, i * 3 + 1, none⟩ = some (.bool s.used) ∧ w.cell? ⟨g, i * 3 + 2, none⟩ = some (.int .i64 s.val) := by
  refine ⟨?_, ?_, ?_⟩
  · rw [cell_of_row w g _ _ _ _ h.row]; simpa using flatR_get R i s hi 0 _ rfl
  · rw [cell_of_row w g _ _ _ _ h.row]; simpa using flatR_get R i s hi 1 _ rfl
  · rw [cell_of_row w g _ _ _ _ h.row]; simpa using flatR_get R i s hi 2 _ rfl

theorem RefAt.efrozen (h : RefAt w xb g k R B) (j : Nat) : w.frozen? ⟨g, j, none⟩ = false := frozen_of_row w g j _ _ h.row

theorem RefAt.put (h : RefAt w xb g k R B) {i j : Nat} {s s' : RS} {v : Value} (hi : R[i]? = some s) (he : encR s' = (encR s).set j v) (hj : j < 3) {B' : Int} (hB : B ≤ B') (hs' : 0 ≤ s'.gen ∧ s'.gen ≤ B') :
    RefAt (w.setCell ⟨g, i * 3 + j, none⟩ v) xb g k (R.set i s') B' := by
  refine ⟨(heap_setCell_other _ _ _ _ h.ne.symm).trans h.hdr, ?_, by simpa using h.len, h.ne, ?_, h.small⟩
  · rw [heap_setCell_same w g _ _ _ v h.row, ← flatR_set R i j s s' v hi hj he]
    simp
  · intro t ht
    rcases List.mem_or_eq_of_mem_set ht with h1 | rfl
    · have := h.gen t h1; omega
    · exact hs'
end

/-! ### what ties the two -/

def LiveR (R : List RS) (ix gn : Int) (i : Nat) (r : RS) : Prop := ix = i ∧ R[i]? = some r ∧ r.used = true ∧ r.gen = gn

def FreeR (R : List RS) (i : Nat) : Prop := ∀ (j : Nat) (r : RS), j < i → R[j]? = some r → r.used = true

def Tie (s : Option Slot) (r : RS) : Prop :=
  match s with
  | some s => s.used = r.used ∧ s.gen = r.gen ∧ (r.used = true → s.val = [.int .i64 r.val])
  | none => r.used = false ∧ r.gen = 0

structure Mt (A : List Slot) (R : List RS) : Prop where
  len : A.length ≤ R.length
  tie : ∀ (i : Nat) (r : RS), R[i]? = some r → Tie A[i]? r

theorem Mt.live {A : List Slot} {R : List RS} (h : Mt A R) {ix gn : Int} {i : Nat} {r : RS} (hl : LiveR R ix gn i r) : I.Live A ix gn i ⟨true, gn, [.int .i64 r.val]⟩ := by
  obtain ⟨rfl, hr, hu, rfl⟩ := hl
  have ht := h.tie i r hr
  cases hs : A[i]? with
  | none => rw [hs] at ht; have h1 : r.used = false := ht.1; rw [h1] at hu; cases hu
  | some s =>
    rw [hs] at ht
    obtain ⟨h1, h2, h3⟩ : s.used = r.used ∧ s.gen = r.gen ∧ (r.used = true → s.val = [.int .i64 r.val]) := ht
    have h4 := h3 hu
    obtain ⟨a, b, c⟩ := s
    simp only at h1 h2 h4
    subst h1 h2 h4
    exact ⟨rfl, by rw [hs, hu], rfl, rfl⟩

theorem Mt.dead {A : List Slot} {R : List RS} (h : Mt A R) {ix gn : Int} (hl : ∀ i r, ¬ LiveR R ix gn i r) : ∀ i s, ¬ I.Live A ix gn i s := by
  rintro i s ⟨rfl, hs, hu, rfl⟩
  have hi := (List.getElem?_eq_some_iff.1 hs).1
  obtain ⟨r, hr⟩ : ∃ r, R[i]? = some r := ⟨_, List.getElem?_eq_getElem (Nat.lt_of_lt_of_le hi h.len)⟩
  have ht := h.tie i r hr
  rw [hs] at ht
  obtain ⟨h1, h2, h3⟩ : s.used = r.used ∧ s.gen = r.gen ∧ (r.used = true → s.val = [.int .i64 r.val]) := ht
  exact hl i r ⟨rfl, hr, by rw [← h1]; exact hu, h2.symm⟩

theorem Mt.set {A : List Slot} {R : List RS} (h : Mt A R) {i : Nat} {s : Slot} {r : RS} (hi : i < A.length) (ht : Tie (some s) r) : Mt (A.set i s) (R.set i r) := by
  refine ⟨by simpa using h.len, fun j q hq => ?_⟩
  rw [List.getElem?_set] at hq ⊢
  by_cases hij : i = j
  · subst hij
    rw [if_pos rfl] at hq ⊢
    rw [if_pos hi]
    rw [if_pos (Nat.lt_of_lt_of_le hi h.len)] at hq
    cases hq
    exact ht
  · rw [if_neg hij] at hq ⊢
    exact h.tie j q hq

theorem Mt.push {A : List Slot} {R : List RS} (h : Mt A R) {s : Slot} {r : RS} (hi : A.length < R.length) (ht : Tie (some s) r) : Mt (A ++ [s]) (R.set A.length r) := by
  refine ⟨by simp; omega, fun j q hq => ?_⟩
  rw [List.getElem?_set] at hq
  by_cases hij : A.length = j
  · subst hij
    rw [if_pos rfl, if_pos hi] at hq
    cases hq
    rw [List.getElem?_append_right (Nat.le_refl _), Nat.sub_self]
    exact ht
  · rw [if_neg hij] at hq
    have h1 := h.tie j q hq
    by_cases hj : j < A.length
    · rw [List.getElem?_append_left hj]; exact h1
    · rw [List.getElem?_eq_none (by simp; omega)]
      rw [List.getElem?_eq_none (by omega)] at h1
      exact h1

/-- An allocation on both sides. -/
theorem Mt.put {A A' : List Slot} {R : List RS} (h : Mt A R) {i : Nat} {gn x : Int} (hp : Put A i gn [.int .i64 x] A') (hlt : i < R.length) : FreeR R i ∧ ∃ r, R[i]? = some r ∧ r.used = false ∧ gn = r.gen + 1 ∧ Mt A' (R.set i ⟨gn, true, x⟩) := by
  obtain ⟨r, hr⟩ : ∃ r, R[i]? = some r := ⟨_, List.getElem?_eq_getElem hlt⟩
  have hF : FreeR R i := by
    intro j q hj hq
    obtain ⟨s, hs⟩ : ∃ s, A[j]? = some s := ⟨_, List.getElem?_eq_getElem (by have := hp.1.2.2; omega)⟩
    have ht := h.tie j q hq
    rw [hs] at ht
    have hu := hp.1.1 j s hj hs
    have h1 : s.used = q.used := ht.1
    rw [← h1]; exact hu
  have ht := h.tie i r hr
  obtain ⟨_, ⟨s, hs, hu, rfl, rfl⟩ | ⟨rfl, rfl, rfl⟩⟩ := hp
  · rw [hs] at ht
    have h1 : s.used = r.used := ht.1
    have h2 : s.gen = r.gen := ht.2.1
    refine ⟨hF, r, hr, by rw [← h1]; exact hu, by rw [h2], h.set (List.getElem?_eq_some_iff.1 hs).1 ⟨rfl, rfl, fun _ => rfl⟩⟩
  · rw [List.getElem?_eq_none (Nat.le_refl _)] at ht
    have h1 : r.used = false := ht.1
    have h2 : r.gen = 0 := ht.2
    exact ⟨hF, r, hr, h1, by rw [h2]; rfl, h.push hlt ⟨rfl, rfl, fun _ => rfl⟩⟩

theorem Put.lt {A A' : List Slot} {i : Nat} {gn : Int} {vs : List Value} (hp : Put A i gn vs A') {n : Nat} (h : A'.length ≤ n) : i < n := by
  obtain ⟨_, ⟨s, hs, _, _, rfl⟩ | ⟨rfl, _, rfl⟩⟩ := hp
  · have := (List.getElem?_eq_some_iff.1 hs).1; simp at h; omega
  · simp at h; omega

def used2 (A : List (Bool × Int)) : Nat → List (Int × Int) := fun k => match A with
  | [] => []
  | p :: A => if p.1 then ((k : Int), p.2) :: used2 A (k + 1) else used2 A (k + 1)

theorem hands_used2 (A : List Slot) : ∀ k, hands k A = used2 (A.map fun s => (s.used, s.gen)) k := by
  induction A with
  | nil => intro k; rfl
  | cons s A ih => intro k; simp only [hands, List.map_cons, used2, ih]

theorem used2_blank (L : List (Bool × Int)) (m : Nat) : ∀ k, used2 (L ++ List.replicate m (false, 0)) k = used2 L k := by
  induction L with
  | nil =>
    intro k
    rw [List.nil_append]
    induction m generalizing k with
    | zero => rfl
    | succ m ih => rw [List.replicate_succ, used2]; simpa [used2] using ih (k + 1)
  | cons p L ih => intro k; simp only [List.cons_append, used2, ih]

def handsR (R : List RS) : List (Int × Int) := used2 (R.map fun s => (s.used, s.gen)) 0

theorem used2_append (L M : List (Bool × Int)) : ∀ k, used2 (L ++ M) k = used2 L k ++ used2 M (k + L.length) := by
  induction L with
  | nil => intro k; simp [used2]
  | cons s A ih =>
    intro k
    simp only [List.cons_append, used2, ih, List.length_cons]
    rw [show k + 1 + A.length = k + (A.length + 1) by omega]
    split <;> simp

theorem handsR_take {R : List RS} {i : Nat} {r : RS} (h : R[i]? = some r) : handsR (R.take (i + 1)) = handsR (R.take i) ++ (if r.used then [((i : Int), r.gen)] else []) := by
  have hi : i < R.length := (List.getElem?_eq_some_iff.1 h).1
  unfold handsR
  rw [List.take_add_one, h, List.map_append, used2_append]
  simp only [Option.toList, List.map_cons, List.map_nil, used2, List.length_map, List.length_take, Nat.zero_add, Nat.min_eq_left (Nat.le_of_lt hi)]

theorem Mt.hands {A : List Slot} {R : List RS} (h : Mt A R) : hands 0 A = handsR R := by
  rw [hands_used2, handsR]
  have : (R.map fun s => (s.used, s.gen)) = (A.map fun s => (s.used, s.gen)) ++ List.replicate (R.length - A.length) (false, 0) := by
    apply List.ext_getElem?
    intro i
    have hl := h.len
    by_cases hi : i < A.length
    · obtain ⟨s, hs⟩ : ∃ s, A[i]? = some s := ⟨_, List.getElem?_eq_getElem hi⟩
      obtain ⟨r, hr⟩ : ∃ r, R[i]? = some r := ⟨_, List.getElem?_eq_getElem (by omega)⟩
      have ht := h.tie i r hr
      rw [hs] at ht
      have h1 : s.used = r.used := ht.1
      have h2 : s.gen = r.gen := ht.2.1
      rw [List.getElem?_append_left (by simpa using hi), List.getElem?_map, List.getElem?_map, hs, hr]
      simp [h1, h2]
    · by_cases hr' : i < R.length
      · obtain ⟨r, hr⟩ : ∃ r, R[i]? = some r := ⟨_, List.getElem?_eq_getElem hr'⟩
        have ht := h.tie i r hr
        rw [List.getElem?_eq_none (by omega)] at ht
        have h1 : r.used = false := ht.1
        have h2 : r.gen = 0 := ht.2
        rw [List.getElem?_append_right (by simpa using hi), List.getElem?_map, hr, List.length_map, List.getElem?_replicate, if_pos (by omega)]
        simp [h1, h2]
      · rw [List.getElem?_eq_none (by simp; omega), List.getElem?_eq_none (by simp; omega)]
  rw [this, used2_blank]

theorem Mt.full {A : List Slot} {R : List RS} (h : Mt A R) (hc : cnt A = R.length) : FreeR R R.length := by
  have h1 := cnt_le A
  have h2 := h.len
  intro j r hj hr
  obtain ⟨s, hs⟩ : ∃ s, A[j]? = some s := ⟨_, List.getElem?_eq_getElem (by omega)⟩
  have ht := h.tie j r hr
  rw [hs] at ht
  have h3 : s.used = r.used := ht.1
  rw [← h3]
  exact all_of_cnt (by omega) j s hs

theorem mt_born (k : Nat) : Mt [] (List.replicate k ⟨0, false, 0⟩) := by
  refine ⟨by simp, fun i r hr => ?_⟩
  rw [List.getElem?_replicate] at hr
  split at hr
  · cases hr; exact ⟨rfl, rfl⟩
  · cases hr

end Go.Proofs.Ytgelgnakhghpkaa
