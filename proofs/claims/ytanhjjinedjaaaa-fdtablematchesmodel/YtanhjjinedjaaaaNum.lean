/-
  CONTRACTS of slices.Index over bools and of unusedNumber, over this seat's translation: the smallest number that no entry has.
  Conditions: the row or the table lies in memory; the table is not full.
-/
import Derived.Test.YtanhjjinedjaaaaMem
namespace Go.Proofs.Ytanhjjinedjaaaa
open Go.ChangeShapes Go.WideShapes Go.ChangeAt Go.RowKit
set_option linter.unusedVariables false

def bools (U : List Bool) : List Value := U.map Value.bool

theorem bools_cell {w : World} {ub : Nat} {U : List Bool} {t : TypeId} (h : w.heap[ub]? = some (.cells (bools U).toArray t (0, 0))) {m : Nat} {b : Bool} (hm : U[m]? = some b) : w.cell? ⟨ub, m, none⟩ = some (.bool b) := by
  rw [cell_of_row w ub m _ _ _ h]
  simp [bools, hm]

set_option maxHeartbeats 1000000 in
set_option maxRecDepth 100000 in
theorem index_any (ub n k : Nat) (U : List Bool) (t : TypeId) (w : World) (h : w.heap[ub]? = some (.cells (bools U).toArray t (0, 0))) (hn : U.length = n) (hn2 : n ≤ 256) (hk : U[k]? = some false) (hlow : ∀ m, m < k → U[m]? = some true) :
    Calls Try.prog 48 #[.slice (some ⟨ub, 0, none⟩) n n, .bool false] w fun e w' => e = .returned (.int .i64 k) ∧ w' = w := by
  have hkn : k < n := by rw [← hn]; exact (List.getElem?_eq_some_iff.1 hk).1
  have HS := Lib.hid (And.intro h (And.intro hk hlow))
  clear h hn hk hlow
  go_enter Try.func48, Try.ntmps48
  go_wp2_with fail
  go_loopg [8] (k + 1) (fun g s wr => ∃ i : Nat, s = .int .i64 i ∧ i ≤ k ∧ k - i < g ∧ Hid (wr = w))
  case atStart => exact ⟨0, by go_num, by omega, by omega, rfl⟩
  case round =>
    obtain ⟨i, rfl, hik, hig, HR⟩ := hrel
    have h := HS.out.1
    rw [← HR.out] at h
    have q1 : (0 : Int) ≤ (i : Int) := by omega
    have q2 : (i : Int) < (n : Int) := by omega
    by_cases hi : i < k
    · have c := bools_cell h (HS.out.2.2 i hi)
      clear h
      go_wp2_with fail
      go_roundg (k - i)
      case measure => exact hig
      case rel => exact ⟨i + 1, by go_num, by omega, by omega, HR.out⟩
    · obtain rfl : i = k := by omega
      have c := bools_cell h HS.out.2.1
      clear h
      go_wp2_with fail
      go_ret
      exact ⟨rfl, HR.out⟩

theorem bools_set (U : List Bool) (m : Nat) (b : Bool) : (bools U).set m (.bool b) = bools (U.set m b) := by simp [bools, List.map_set]

/-- Which numbers the first entries have. -/
def Marks (L : List D) (U : List Bool) : Prop := U.length = 256 ∧ ∀ (m : Nat) (b : Bool), U[m]? = some b → (b = true ↔ ∃ d ∈ L, d.no = m)

theorem Marks.start : Marks [] (List.replicate 256 false) := by
  refine ⟨List.length_replicate, fun m b hb => ?_⟩
  rw [List.getElem?_replicate] at hb
  split at hb
  · cases hb; simp
  · cases hb
theorem Marks.step {L : List D} {U : List Bool} (h : Marks L U) (d : D) : Marks (L ++ [d]) (U.set d.no true) := by
  refine ⟨by rw [List.length_set]; exact h.1, fun m b hb => ?_⟩
  rw [List.getElem?_set] at hb
  by_cases hm : d.no = m
  · rw [if_pos hm] at hb
    split at hb
    · cases hb
      exact ⟨fun _ => ⟨d, by simp, hm⟩, fun _ => rfl⟩
    · cases hb
  · rw [if_neg hm] at hb
    rw [h.2 m b hb]
    constructor
    · rintro ⟨e, he, hn⟩
      exact ⟨e, by simp [he], hn⟩
    · rintro ⟨e, he, hn⟩
      rcases List.mem_append.1 he with h1 | h1
      · exact ⟨e, h1, hn⟩
      · simp at h1; subst h1; exact absurd hn hm

theorem pigeon : ∀ (N : Nat) (L : List D), (∀ m, m < N → ∃ d ∈ L, d.no = m) → N ≤ L.length := by
  intro N
  induction N with
  | zero => intro L _; exact Nat.zero_le _
  | succ N ih =>
    intro L h
    obtain ⟨d, hd, he⟩ := h N (by omega)
    obtain ⟨A, B, rfl⟩ := List.append_of_mem hd
    have h1 := ih (A ++ B) (fun m hm => by
      obtain ⟨e, he1, he2⟩ := h m (by omega)
      rcases List.mem_append.1 he1 with h1 | h1
      · exact ⟨e, by simp [h1], he2⟩
      · rcases List.mem_cons.1 h1 with rfl | h1
        · omega
        · exact ⟨e, by simp [h1], he2⟩)
    simp at h1 ⊢
    omega

/-- Fewer entries than numbers: one is unused. -/
theorem some_unused (L : List D) : ∃ r, r ≤ L.length ∧ Least L r := by
  have step : ∀ N : Nat, (∃ r, r ≤ N ∧ Least L r) ∨ ∀ m, m ≤ N → ∃ d ∈ L, d.no = m := by
    intro N
    induction N with
    | zero =>
      by_cases h : ∃ d ∈ L, d.no = 0
      · exact .inr fun m hm => by obtain rfl : m = 0 := by omega
                                  exact h
      · exact .inl ⟨0, Nat.le_refl _, fun d hd he => h ⟨d, hd, he⟩, fun m hm => by omega⟩
    | succ N ih =>
      rcases ih with ⟨r, hr, hl⟩ | ih
      · exact .inl ⟨r, by omega, hl⟩
      · by_cases h : ∃ d ∈ L, d.no = N + 1
        · refine .inr fun m hm => ?_
          by_cases hm' : m = N + 1
          · subst hm'; exact h
          · exact ih m (by omega)
        · exact .inl ⟨N + 1, Nat.le_refl _, fun d hd he => h ⟨d, hd, he⟩, fun m hm => ih m (by omega)⟩
  rcases step L.length with h | h
  · exact h
  · have := pigeon (L.length + 1) L (fun m hm => h m (by omega))
    omega

theorem Least.unique {L M : List D} {r s : Nat} (h : Least L r) (k : Least M s) (hLM : ∀ m, (∃ d ∈ L, d.no = m) ↔ ∃ d ∈ M, d.no = m) : r = s := by
  rcases Nat.lt_trichotomy r s with h1 | h1 | h1
  · obtain ⟨d, hd, he⟩ := (hLM r).2 (k.2 r h1)
    exact absurd he (h.1 d hd)
  · exact h1
  · obtain ⟨d, hd, he⟩ := (hLM s).1 (h.2 s h1)
    exact absurd he (k.1 d hd)

theorem Marks.least {L : List D} {U : List Bool} (h : Marks L U) {r : Nat} (hr : Least L r) (h256 : r < 256) : U[r]? = some false ∧ ∀ m, m < r → U[m]? = some true := by
  have hg : ∀ m, m < 256 → ∃ b, U[m]? = some b := fun m hm => ⟨_, List.getElem?_eq_getElem (by rw [h.1]; exact hm)⟩
  constructor
  · obtain ⟨b, hb⟩ := hg r h256
    cases b with
    | false => exact hb
    | true =>
      obtain ⟨d, hd, he⟩ := (h.2 r true hb).1 rfl
      exact absurd he (hr.1 d hd)
  · intro m hm
    obtain ⟨b, hb⟩ := hg m (by omega)
    have := (h.2 m b hb).2 (hr.2 m hm)
    rw [this] at hb
    exact hb

theorem zero74 : (Try.prog.info? 74).map (fun i => (i.zero, i.size, i.bytes)) = some (some (.agg (bools (List.replicate 256 false)).toArray), 256, 256) := by kernel_rfl

set_option maxHeartbeats 1000000 in
set_option maxRecDepth 100000 in
theorem unused_any (hb : Nat) (sv : Value) (L : List D) (size op : Nat) (w : World) (h : Raw w hb sv L size op) (hs : Sound L size) (hlt : L.length < 256) :
    Calls Try.prog 40 #[.pointer (some ⟨hb, 0, none⟩)] w fun e w' => ∃ r : Nat, e = .returned (.int .i64 r) ∧ Least L r ∧ Fr No w w' := by
  obtain ⟨a, cap, rfl, -, -⟩ := h.row.any
  obtain ⟨n, hn⟩ : ∃ n, L.length = n := ⟨_, rfl⟩
  rw [hn] at h hlt
  have HS := Lib.hid (And.intro h (And.intro hs hn))
  obtain ⟨Z, hZ⟩ : ∃ Z, (bools (List.replicate 256 false)).toArray = Z := ⟨_, rfl⟩
  have hz : ∀ w, (zeroValue 74).run Try.prog w = .ok (.agg Z) w := fun w => by
    obtain ⟨i0, hi0, hz0, _, _⟩ := info_parts zero74
    rw [hZ] at hz0
    simp [zeroValue, typeInfo, hi0, hz0]
  have HF0 : Hid (Fr No w (w.alloc (.cells Z 74))) := Fr.alloc No _ _
  have HU0 : Hid ((w.alloc (.cells Z 74)).heap[w.heap.size]? = some (.cells (bools (List.replicate 256 false)).toArray 74 (0, 0))) := by rw [hZ]; exact heap_alloc_new w _
  have hr0 := h.frNo HF0.out
  obtain ⟨c0, -, -⟩ := hr0.hcell
  clear h hs hn hr0 hZ
  go_enter Try.func40, Try.ntmps40
  go_wp2_with fail
  clear c0 hz
  obtain ⟨ub, hub⟩ : ∃ ub, w.heap.size = ub := ⟨_, rfl⟩
  rw [hub] at HU0 ⊢
  have HUB := Lib.hid hub
  clear hub
  revert HU0; revert HF0
  generalize w.alloc (.cells Z 74) = y
  intro HF0 HU0
  go_loopg [11] (n + 1) (fun g s wr => ∃ i : Nat, s = .int .i64 i ∧ i ≤ n ∧ n - i < g ∧ Hid (Fr No w wr ∧ ∃ U, wr.heap[ub]? = some (.cells (bools U).toArray 74 (0, 0)) ∧ Marks (L.take i) U))
  case atStart => exact ⟨0, by go_num, by omega, by omega, HF0.out, _, HU0.out, by rw [List.take_zero]; exact Marks.start⟩
  case round =>
    obtain ⟨i, rfl, hin, hig, HR⟩ := hrel
    obtain ⟨U, hU, hM⟩ := HR.out.2
    have HF := Lib.hid HR.out.1
    clear HR
    have hr := HS.out.1.frNo HF.out
    by_cases hi : i < n
    · obtain ⟨d, hd⟩ : ∃ d, L[i]? = some d := ⟨_, List.getElem?_eq_getElem (by have := HS.out.2.2; omega)⟩
      obtain ⟨gb, rfl, _⟩ := hr.row.form (by have := HS.out.2.2; omega)
      obtain ⟨c0, c1, c2, c3⟩ := hr.row.cells hd
      have hno : d.no < 256 := by have h1 := HS.out.2.1.no d (List.mem_of_getElem? hd); have h2 := HS.out.2.1.small; omega
      have HD := Lib.hid hd
      obtain ⟨dc, da, dn, ds⟩ := d
      simp only at c0 c1 c2 c3 hno
      have q1 : (0 : Int) ≤ (i : Int) := by omega
      have q2 : (i : Int) < (n : Int) := by omega
      have q3 : (0 : Int) ≤ (dn : Int) := by omega
      have q4 : (dn : Int) < 256 := by omega
      obtain ⟨b, hb⟩ : ∃ b, U[dn]? = some b := ⟨_, List.getElem?_eq_getElem (by rw [hM.1]; exact hno)⟩
      have hU2 : (wr.alloc (.cells #[.int .i64 dc, .int .i64 da, .int .i64 (dn : Int), .int .i64 ds] 61)).heap[ub]? = some (.cells (bools U).toArray 74 (0, 0)) := ((Fr.alloc No wr _).block ub (Array.getElem?_eq_some_iff.1 hU).1 (fun h => h)).trans hU
      have u0 := bools_cell hU2 hb
      have u1 : (wr.alloc (.cells #[.int .i64 dc, .int .i64 da, .int .i64 (dn : Int), .int .i64 ds] 61)).frozen? ⟨ub, dn, none⟩ = false := frozen_of_row _ _ _ _ _ hU2
      have HM := Lib.hid (And.intro hM hU2)
      clear hM hU hr hd hU2 hb
      go_wp2_with fail
      go_roundg (n - i)
      case measure => exact hig
      case rel =>
        refine ⟨i + 1, by go_num, by omega, by omega, (HF.out.trans (Fr.alloc No _ _)).ofNew (Fr.setCell (fun k => k = ub) _ ⟨ub, dn, none⟩ (.bool true) rfl) (fun k hk => .inr (by have := HUB.out; omega)), U.set dn true, ?_, ?_⟩
        · rw [heap_setCell_same _ ub dn _ _ _ HM.out.2, ← bools_set]; simp
        · rw [List.take_succ_eq_append_getElem (by have := HS.out.2.2; omega)]
          have he : L[i]'(by have := HS.out.2.2; omega) = ⟨dc, da, dn, ds⟩ := by
            have := HD.out
            rw [List.getElem?_eq_getElem (by have := HS.out.2.2; omega)] at this
            exact Option.some.inj this
          rw [he]
          exact HM.out.1.step _
    · obtain rfl : i = n := by omega
      have q2 : ¬ ((i : Int) < (i : Int)) := by omega
      rw [List.take_of_length_le (by have := HS.out.2.2; omega)] at hM
      obtain ⟨r, hrl, hr'⟩ := some_unused L
      obtain ⟨h1, h2⟩ := hM.least hr' (by have := HS.out.2.2; omega)
      have HM := Lib.hid (And.intro hU (And.intro hM.1 (And.intro h1 (And.intro h2 hr'))))
      clear hU hM hr h1 h2 hr' hrl
      go_wp2_with fail
      refine (index_any ub 256 r U 74 _ HM.out.1 HM.out.2.1 (Nat.le_refl _) HM.out.2.2.1 HM.out.2.2.2.1).mono ?_
      rintro e w5 ⟨rfl, hw5⟩
      have HW := Lib.hid hw5
      clear hw5
      go_wp2_with fail
      go_ret
      exact ⟨r, rfl, HM.out.2.2.2.2, by rw [HW.out]; exact HF.out⟩

end Go.Proofs.Ytanhjjinedjaaaa
