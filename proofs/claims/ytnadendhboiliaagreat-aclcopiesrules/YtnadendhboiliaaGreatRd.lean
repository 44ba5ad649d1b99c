/-
  An access control list in memory, its first i address rules in the trie; what holds it together; no walk.
  Conditions: none.
-/
import Derived.Test.YtnadendhboiliaaGreatRa
import Derived.Test.YtnadendhboiliaaGreatMc
namespace Go.Proofs.YtnadendhboiliaaGreat
open Go.ChangeShapes Go.WideShapes Go.ChangeAt Go.RowKit
set_option linter.unusedVariables false

/-- The address rules of a prefix among the first i. -/
def isA (L : List Ru) (p : Px) (j : Nat) : Bool := match L[j]? with
  | some r => decide (r.sf = []) && decide (r.p = p)
  | none => false
def idx (L : List Ru) (i : Nat) (p : Px) : List Nat := (List.range i).filter (isA L p)
theorem idx_succ (L : List Ru) (i : Nat) (p : Px) : idx L (i + 1) p = if isA L p i = true then idx L i p ++ [i] else idx L i p := by
  unfold idx
  rw [List.range_succ, List.filter_append]
  cases h : isA L p i with
  | true => rw [if_pos rfl, List.filter_cons_of_pos h, List.filter_nil]
  | false => rw [if_neg (by decide), List.filter_cons_of_neg (by rw [h]; decide), List.filter_nil, List.append_nil]
theorem isA_iff {L : List Ru} {p : Px} {j : Nat} : isA L p j = true ↔ ∃ r, L[j]? = some r ∧ r.sf = [] ∧ r.p = p := by
  unfold isA
  cases h : L[j]? with
  | none => simp
  | some r => simp
theorem idx_mem {L : List Ru} {i : Nat} {p : Px} {j : Nat} : j ∈ idx L i p ↔ j < i ∧ ∃ r, L[j]? = some r ∧ r.sf = [] ∧ r.p = p := by
  unfold idx
  rw [List.mem_filter, List.mem_range, isA_iff]
theorem idx_lt (L : List Ru) (i : Nat) (p : Px) : (idx L i p).Pairwise (· < ·) := List.Pairwise.filter _ List.pairwise_lt_range
theorem idx_len (L : List Ru) (i : Nat) (p : Px) : (idx L i p).length ≤ i := by
  have := List.length_filter_le (isA L p) (List.range i)
  rw [List.length_range] at this
  exact this
theorem idx_none {L : List Ru} {i : Nat} {r : Ru} (hr : L[i]? = some r) (hs : r.sf ≠ []) (p : Px) : idx L (i + 1) p = idx L i p := by
  rw [idx_succ, if_neg]
  rw [isA_iff]
  rintro ⟨q, hq, h1, h2⟩
  rw [hr] at hq; cases hq; exact hs h1
theorem idx_mine {L : List Ru} {i : Nat} {r : Ru} (hr : L[i]? = some r) (hs : r.sf = []) : idx L (i + 1) r.p = idx L i r.p ++ [i] := by
  rw [idx_succ, if_pos (isA_iff.2 ⟨r, hr, hs, rfl⟩)]
theorem idx_other {L : List Ru} {i : Nat} {r : Ru} (hr : L[i]? = some r) {p : Px} (hp : r.p ≠ p) : idx L (i + 1) p = idx L i p := by
  rw [idx_succ, if_neg]
  rw [isA_iff]
  rintro ⟨q, hq, h1, h2⟩
  rw [hr] at hq; cases hq; exact hp h2

/-- What the trie's values are. -/
structure Vals (B : Nat) (w : World) (L : List Ru) (i : Nat) (T : List (Px × Value)) : Prop where
  val : ∀ p x, (p, x) ∈ T → idx L i p ≠ [] ∧ w.ownsRow B 3 1 x (idx L i p).length (nums .i64 (idx L i p))
  key : ∀ p, idx L i p ≠ [] → ∃ x, (p, x) ∈ T
  apart : ∀ p x q y, (p, x) ∈ T → (q, y) ∈ T → p ≠ q → x.ownBlock ≠ y.ownBlock
theorem Vals.fr {B : Nat} {w w' : World} {L : List Ru} {i : Nat} {T : List (Px × Value)} (h : Vals B w L i T) {S : Nat → Prop} (hf : Fr S w w') (hS : ∀ p x k, (p, x) ∈ T → x.ownBlock = some k → ¬ S k) : Vals B w' L i T :=
  ⟨fun p x hm => ⟨(h.val p x hm).1, row_keep (h.val p x hm).2 fun k hk => hf.block k (((h.val p x hm).2.lt k hk).2) (hS p x k hm hk)⟩, h.key, h.apart⟩
theorem Vals.own {B : Nat} {w : World} {L : List Ru} {i : Nat} {T : List (Px × Value)} (h : Vals B w L i T) {p : Px} {x : Value} (hm : (p, x) ∈ T) {k : Nat} (hk : x.ownBlock = some k) : B ≤ k ∧ k < w.heap.size := (h.val p x hm).2.lt k hk
theorem Vals.next {B : Nat} {w : World} {L : List Ru} {i : Nat} {T : List (Px × Value)} (h : Vals B w L i T) {r : Ru} (hr : L[i]? = some r) (hs : r.sf ≠ []) : Vals B w L (i + 1) T :=
  ⟨fun p x hm => by rw [idx_none hr hs]; exact h.val p x hm, fun p hp => by rw [idx_none hr hs] at hp; exact h.key p hp, h.apart⟩
/-- Once a rule is put in. -/
theorem Vals.put {B : Nat} {w w' : World} {L : List Ru} {i : Nat} {T : List (Px × Value)} (h : Vals B w L i T) (hT : Srt T) {r : Ru} (hr : L[i]? = some r) (hs : r.sf = []) {v0 v1 : Value} (h0 : (valL T r.p).getD (.slice none 0 0) = v0) {S : Nat → Prop} (hf : Fr S w w')
    (hS : ∀ k, S k → v0.ownBlock = some k) (hb : v1.ownBlock = v0.ownBlock ∨ ∃ k, v1.ownBlock = some k ∧ w.heap.size ≤ k) (hv : w'.ownsRow B 3 1 v1 ((idx L i r.p).length + 1) (nums .i64 (idx L i r.p ++ [i]))) : Vals B w' L (i + 1) (putL r.p v1 T) := by
  have hoth : ∀ p x, (p, x) ∈ T → p ≠ r.p → x.ownBlock ≠ v1.ownBlock ∧ ∀ k, x.ownBlock = some k → ¬ S k := by
    intro p x hm hp
    have hne : x.ownBlock ≠ none := by
      intro hc
      obtain ⟨hi, ho⟩ := h.val p x hm
      rcases ho.2 with ⟨-, h0⟩ | ⟨g, cap, cur, rfl, -⟩
      · exact hi (List.eq_nil_of_length_eq_zero h0)
      · cases hc
    have hx0 : x.ownBlock ≠ v0.ownBlock := by
      cases hq : valL T r.p with
      | none => rw [hq] at h0; rw [← h0]; exact hne
      | some y =>
        rw [hq] at h0
        have hm2 := (valL_iff hT).1 hq
        rw [← h0]
        exact h.apart p x r.p y hm hm2 hp
    refine ⟨?_, fun k hk hs => hx0 (by rw [hk, hS k hs])⟩
    rcases hb with hb | ⟨k, hb, hk⟩
    · rw [hb]; exact hx0
    · rw [hb]
      intro hc
      have := (h.own hm hc).2
      omega
  refine ⟨fun p x hm => ?_, fun p hp => ?_, fun p x q y hm hn hpq => ?_⟩
  · rcases (putL_mem hT).1 hm with he | ⟨he, hm⟩
    · cases he
      rw [idx_mine hr hs]
      refine ⟨by simp, ?_⟩
      rw [List.length_append]
      exact hv
    · have he : p ≠ r.p := he
      rw [idx_other hr (Ne.symm he)]
      exact ⟨(h.val p x hm).1, row_keep (h.val p x hm).2 fun k hk => hf.block k (h.own hm hk).2 ((hoth p x hm he).2 k hk)⟩
  · by_cases he : p = r.p
    · subst he; exact ⟨v1, (putL_mem hT).2 (.inl rfl)⟩
    · rw [idx_other hr (Ne.symm he)] at hp
      obtain ⟨x, hx⟩ := h.key p hp
      exact ⟨x, (putL_mem hT).2 (.inr ⟨he, hx⟩)⟩
  · rcases (putL_mem hT).1 hm with he | ⟨he, hm⟩ <;> rcases (putL_mem hT).1 hn with hg | ⟨hg, hn⟩
    · cases he; cases hg; exact absurd rfl hpq
    · cases he; exact fun hc => (hoth q y hn hg).1 hc.symm
    · cases hg; exact (hoth p x hm he).1
    · exact h.apart p x q y hm hn hpq

/-- An access control list at x, its first i rules laid; all of it at n0 or beyond. -/
structure Inc (n0 : Nat) (w : World) (x : Nat) (L : List Ru) (i : Nat) (tb : Nat) (ra : Option Addr) (rc : Nat) (T : List (Px × Value)) (X : Nat → Prop) : Prop where
  box : w.heap[x]? = some (.cells #[.slice ra L.length rc, .pointer (some ⟨tb, 0, none⟩)] 52 (0, 0))
  rows : RowR w ra L
  far : FarR n0 ra L
  st : StL w tb T X
  xlt : ∀ k, X k → k < w.heap.size
  low : ∀ k, k < n0 → X k
  xx : X x
  nx : n0 ≤ x
  xra : ∀ ad, ra = some ad → L ≠ [] → X ad.block ∧ ad.block < x
  vals : Vals (x + 1) w L i T
  xv : ∀ p v k, (p, v) ∈ T → v.ownBlock = some k → X k
  len : T.length ≤ i
theorem Inc.no {n0 : Nat} {w w' : World} {x : Nat} {L : List Ru} {i tb : Nat} {ra : Option Addr} {rc : Nat} {T : List (Px × Value)} {X : Nat → Prop} (h : Inc n0 w x L i tb ra rc T X) (hf : Fr No w w') : Inc n0 w' x L i tb ra rc T X :=
  ⟨hf.keep h.box, h.rows.no hf, h.far, h.st.no hf, fun k hk => Nat.lt_of_lt_of_le (h.xlt k hk) hf.size, h.low, h.xx, h.nx, h.xra, h.vals.fr hf fun _ _ _ _ _ hc => hc, h.xv, h.len⟩
/-- What lies below n0 may change. -/
theorem Inc.fr {n0 : Nat} {w w' : World} {x : Nat} {L : List Ru} {i tb : Nat} {ra : Option Addr} {rc : Nat} {T : List (Px × Value)} {X : Nat → Prop} (h : Inc n0 w x L i tb ra rc T X) {S : Nat → Prop} (hf : Fr S w w') (hS : ∀ k, S k → k < n0) : Inc n0 w' x L i tb ra rc T X :=
  ⟨(hf.block x (some_lt h.box) fun hc => by have := hS _ hc; have := h.nx; omega).trans h.box, h.rows.fr hf fun ad he hn hc => by have := hS _ hc; have := h.far ad he hn; omega, h.far, h.st.fr hf fun k hk => h.low k (hS k hk), fun k hk => Nat.lt_of_lt_of_le (h.xlt k hk) hf.size, h.low, h.xx, h.nx, h.xra, h.vals.fr hf fun p v k hm hk hc => by have := (h.vals.own hm hk).1; have := hS _ hc; have := h.nx; omega, h.xv, h.len⟩
theorem Inc.next {n0 : Nat} {w : World} {x : Nat} {L : List Ru} {i tb : Nat} {ra : Option Addr} {rc : Nat} {T : List (Px × Value)} {X : Nat → Prop} (h : Inc n0 w x L i tb ra rc T X) {r : Ru} (hr : L[i]? = some r) (hs : r.sf ≠ []) : Inc n0 w x L (i + 1) tb ra rc T X :=
  ⟨h.box, h.rows, h.far, h.st, h.xlt, h.low, h.xx, h.nx, h.xra, h.vals.next hr hs, h.xv, Nat.le_succ_of_le h.len⟩
/-- A new block joins what the trie leaves alone. -/
theorem Inc.more {n0 : Nat} {w w' : World} {x : Nat} {L : List Ru} {i tb : Nat} {ra : Option Addr} {rc : Nat} {T : List (Px × Value)} {X : Nat → Prop} (h : Inc n0 w x L i tb ra rc T X) (hf : Fr No w w') {nb : Nat} (h1 : w.heap.size ≤ nb) (h2 : nb < w'.heap.size) : Inc n0 w' x L i tb ra rc T (fun k => X k ∨ k = nb) := by
  have h' : Inc n0 w x L i tb ra rc T X := h
  have hs : StL w tb T (fun k => X k ∨ k = nb) := h.st.add fun k hk => hk.elim .inl fun e => .inr (by omega)
  exact ⟨hf.keep h.box, h.rows.no hf, h.far, hs.no hf, fun k hk => hk.elim (fun hk => Nat.lt_of_lt_of_le (h.xlt k hk) hf.size) fun e => by omega, fun k hk => .inl (h.low k hk), .inl h.xx, h.nx, fun ad he hn => ⟨.inl (h.xra ad he hn).1, (h.xra ad he hn).2⟩, h.vals.fr hf fun _ _ _ _ _ hc => hc, fun p v k hm hk => .inl (h.xv p v k hm hk), h.len⟩
/-- Ahead of Insert: the grown row has joined what the trie leaves alone. -/
theorem Inc.grow {n0 : Nat} {w w2 w3 : World} {x : Nat} {L : List Ru} {i tb : Nat} {ra : Option Addr} {rc : Nat} {T : List (Px × Value)} {X : Nat → Prop} (h : Inc n0 w x L i tb ra rc T X) {r : Ru} {v0 v1 : Value} (h0 : (valL T r.p).getD (.slice none 0 0) = v0) (hg : w.grownBy w2 v0.ownBlock) (hb : v1.ownBlock = v0.ownBlock ∨ v1.ownBlock = some w.heap.size)
    (hv : w2.ownsRow (x + 1) 3 1 v1 ((idx L i r.p).length + 1) (nums .i64 (idx L i r.p ++ [i]))) (hf : Fr No w2 w3) :
    StL w3 tb T (fun k => X k ∨ v1.ownBlock = some k) ∧ (∀ k, (X k ∨ v1.ownBlock = some k) → k < w3.heap.size) ∧ Fr (fun k => v0.ownBlock = some k) w w3 := by
  have hX0 : ∀ k, v0.ownBlock = some k → X k := by
    intro k hk
    cases hq : valL T r.p with
    | none => rw [hq] at h0; rw [← h0] at hk; cases hk
    | some y =>
      rw [hq] at h0
      exact h.xv r.p y k ((valL_iff h.st.srt.1).1 hq) (by rw [← hk, ← h0]; rfl)
  have hfr : Fr (fun k => v0.ownBlock = some k) w w3 := (Fr.grown hg fun k hk => hk).trans hf.no
  refine ⟨?_, fun k hk => ?_, hfr⟩
  · refine (h.st.add (Y := fun k => X k ∨ v1.ownBlock = some k) fun k hk => ?_).fr hfr fun k hk => .inl (hX0 k hk)
    rcases hk with hk | hk
    · exact .inl hk
    · rcases hb with hb | hb
      · exact .inl (hX0 k (by rw [← hb]; exact hk))
      · rw [hb] at hk; cases hk; exact .inr (Nat.le_refl _)
  · rcases hk with hk | hk
    · exact Nat.lt_of_lt_of_le (h.xlt k hk) hfr.size
    · exact Nat.lt_of_lt_of_le (hv.lt k hk).2 hf.size
/-- Behind Insert. -/
theorem Inc.done {n0 : Nat} {w w2 w3 w4 : World} {x : Nat} {L : List Ru} {i tb : Nat} {ra : Option Addr} {rc : Nat} {T : List (Px × Value)} {X : Nat → Prop} (h : Inc n0 w x L i tb ra rc T X) {r : Ru} (hr : L[i]? = some r) (hs : r.sf = []) {v0 v1 : Value} (h0 : (valL T r.p).getD (.slice none 0 0) = v0) (hg : w.grownBy w2 v0.ownBlock) (hb : v1.ownBlock = v0.ownBlock ∨ v1.ownBlock = some w.heap.size)
    (hv : w2.ownsRow (x + 1) 3 1 v1 ((idx L i r.p).length + 1) (nums .i64 (idx L i r.p ++ [i]))) (hf : Fr No w2 w3)
    (hst : StL w4 tb (putL r.p v1 T) (fun k => X k ∨ v1.ownBlock = some k)) (hf4 : Fr (fun k => ¬ (X k ∨ v1.ownBlock = some k)) w3 w4) : Inc n0 w4 x L (i + 1) tb ra rc (putL r.p v1 T) (fun k => X k ∨ v1.ownBlock = some k) ∧ Fr (fun k => n0 ≤ k) w w4 := by
  obtain ⟨g1, g2, g3⟩ := h.grow h0 hg hb hv hf
  have hS : Srt T := h.st.srt.1
  have hv0x : ∀ k, v0.ownBlock = some k → x + 1 ≤ k := by
    intro k hk
    cases hq : valL T r.p with
    | none => rw [hq] at h0; rw [← h0] at hk; cases hk
    | some y =>
      rw [hq] at h0
      exact (h.vals.own ((valL_iff hS).1 hq) (by rw [← hk, ← h0]; rfl)).1
  have hvals3 : Vals (x + 1) w3 L (i + 1) (putL r.p v1 T) := by
    refine h.vals.put hS hr hs h0 g3 (fun k hk => hk) ?_ (row_frNo hv hf)
    rcases hb with hb | hb
    · exact .inl hb
    · exact .inr ⟨_, hb, Nat.le_refl _⟩
  have hxv : ∀ p v k, (p, v) ∈ putL r.p v1 T → v.ownBlock = some k → X k ∨ v1.ownBlock = some k := by
    intro p v k hm hk
    rcases (putL_mem hS).1 hm with he | ⟨-, hm⟩
    · cases he; exact .inr hk
    · exact .inl (h.xv p v k hm hk)
  have hfr : Fr (fun k => x < k ∨ ¬ X k) w w4 := (g3.mono fun k _ hk => .inl (by have := hv0x k hk; omega)).trans (hf4.mono fun k _ hk => .inr fun hx => hk (.inl hx))
  refine ⟨⟨?_, ?_, h.far, hst, fun k hk => Nat.lt_of_lt_of_le (g2 k hk) hf4.size, fun k hk => .inl (h.low k hk), .inl h.xx, h.nx, fun ad he hn => ⟨.inl (h.xra ad he hn).1, (h.xra ad he hn).2⟩, ?_, hxv, ?_⟩, ?_⟩
  · exact (hfr.block x (some_lt h.box) fun hc => hc.elim (fun hc => by omega) fun hc => hc h.xx).trans h.box
  · refine h.rows.fr hfr fun ad he hn hc => ?_
    have := h.xra ad he hn
    exact hc.elim (fun hc => by omega) fun hc => hc this.1
  · exact hvals3.fr hf4 fun p v k hm hk hc => hc (hxv p v k hm hk)
  · rw [putL_len hS]
    have := h.len
    split <;> omega
  · exact hfr.mono fun k _ hk => hk.elim (fun hk => by have := h.nx; omega) fun hk => Nat.le_of_not_lt fun hc => hk (h.low k hc)
end Go.Proofs.YtnadendhboiliaaGreat
