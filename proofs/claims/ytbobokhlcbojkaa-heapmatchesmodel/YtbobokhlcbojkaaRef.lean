/-
  How the reference heap lies in memory; CONTRACTS of someDue, Find and First over this seat's translation.
  Conditions: the reference heap lies in memory as RefAt says.
-/
import Derived.Test.YtbobokhlcbojkaaLook
namespace Go.Proofs.Ytbobokhlcbojkaa
open Go.ChangeShapes Go.WideShapes Go.ChangeAt Go.RowKit Go.Maps
set_option linter.unusedVariables false

def flatR : List Ent → List Value
  | [] => []
  | e :: A => .int .i64 e.id :: .int .u64 e.due :: e.val :: flatR A

theorem flatR_length (A : List Ent) : (flatR A).length = A.length * 3 := by
  induction A with
  | nil => rfl
  | cons e A ih => simp [flatR, ih]; omega

theorem flatR_get (A : List Ent) : ∀ (i : Nat) (e : Ent), A[i]? = some e → (flatR A)[i * 3]? = some (.int .i64 e.id) ∧ (flatR A)[i * 3 + 1]? = some (.int .u64 e.due) ∧ (flatR A)[i * 3 + 2]? = some e.val := by
  induction A with
  | nil => intro i e h; simp at h
  | cons a A ih =>
    intro i e h
    cases i with
    | zero => simp at h; subst h; simp [flatR]
    | succ i =>
      have h' : A[i]? = some e := by simpa using h
      have := ih i e h'
      rw [show (i + 1) * 3 = i * 3 + 1 + 1 + 1 by omega]
      simpa [flatR, Nat.add_right_comm] using this

theorem flatR_due (A : List Ent) : ∀ (i : Nat) (e : Ent) (d : Int), A[i]? = some e → (flatR A).set (i * 3 + 1) (.int .u64 d) = flatR (A.set i { e with due := d }) := by
  induction A with
  | nil => intro i e d h; simp at h
  | cons a A ih =>
    intro i e d h
    cases i with
    | zero => simp at h; subst h; simp [flatR]
    | succ i =>
      rw [show (i + 1) * 3 + 1 = (i * 3 + 1) + 1 + 1 + 1 by omega]
      simp only [flatR, List.set_cons_succ]
      rw [ih i e d (by simpa using h)]

theorem flatR_append (A B : List Ent) : flatR (A ++ B) = flatR A ++ flatR B := by
  induction A with
  | nil => rfl
  | cons a A ih => simp [flatR, ih]

theorem flatR_take (A : List Ent) : ∀ n : Nat, (flatR A).take (n * 3) = flatR (A.take n) := by
  induction A with
  | nil => intro n; simp [flatR]
  | cons a A ih =>
    intro n
    cases n with
    | zero => simp [flatR]
    | succ n =>
      rw [show (n + 1) * 3 = n * 3 + 1 + 1 + 1 by omega]
      simp [flatR, ih]

theorem flatR_drop (A : List Ent) : ∀ n : Nat, (flatR A).drop (n * 3) = flatR (A.drop n) := by
  induction A with
  | nil => intro n; simp [flatR]
  | cons a A ih =>
    intro n
    cases n with
    | zero => simp [flatR]
    | succ n =>
      rw [show (n + 1) * 3 = n * 3 + 1 + 1 + 1 by omega]
      simp [flatR, ih]

structure Lst (L : List Ent) : Prop where
  val : ∀ (i : Nat) (e : Ent), L[i]? = some e → I.V e.val
  inc : L.Pairwise (fun a b => a.id < b.id)
  due : ∀ (i : Nat) (e : Ent), L[i]? = some e → 0 ≤ e.due ∧ e.due ≤ 18446744073709551615
  len : L.length ≤ 1000

structure RefAt (w : World) (xb : Nat) (iv : Value) (L : List Ent) (last : Int) : Prop where
  hdr : w.heap[xb]? = some (.cells #[iv, .int .i64 last] 28 (0, 0))
  row : w.ownsRow 0 43 3 iv L.length (flatR L)
  apart : iv.ownBlock ≠ some xb
  lst : Lst L

def OwnR (xb : Nat) (iv : Value) (k : Nat) : Prop := k = xb ∨ iv.ownBlock = some k

section
variable {w w' : World} {xb : Nat} {iv : Value} {L : List Ent} {last : Int}

theorem RefAt.lt (h : RefAt w xb iv L last) : xb < w.heap.size := (Array.getElem?_eq_some_iff.1 h.hdr).1
theorem RefAt.own_lt (h : RefAt w xb iv L last) {k : Nat} (hk : OwnR xb iv k) : k < w.heap.size := by
  rcases hk with rfl | hk
  · exact h.lt
  · exact (h.row.lt k hk).2
theorem RefAt.keep (h : RefAt w xb iv L last) (hw : ∀ k, OwnR xb iv k → w'.heap[k]? = w.heap[k]?) : RefAt w' xb iv L last :=
  ⟨(hw xb (.inl rfl)).trans h.hdr, row_keep h.row (fun k hk => hw k (.inr hk)), h.apart, h.lst⟩
theorem RefAt.fr {S : Nat → Prop} (h : RefAt w xb iv L last) (hf : Fr S w w') (hS : ∀ k, OwnR xb iv k → ¬ S k) : RefAt w' xb iv L last := h.keep fun k hk => hf.block k (h.own_lt hk) (hS k hk)
theorem RefAt.frNo (h : RefAt w xb iv L last) (hf : Fr No w w') : RefAt w' xb iv L last := h.fr hf fun _ _ h => h
theorem RefAt.form (h : RefAt w xb iv L last) (hn : 0 < L.length) : ∃ g cap, iv = .slice (some ⟨g, 0, none⟩) L.length cap := by
  obtain ⟨g, cap, hv, _⟩ := h.row.form hn
  exact ⟨g, cap, hv⟩
theorem RefAt.form0 (h : RefAt w xb iv L last) : ∃ a cap, iv = .slice a L.length cap := by
  rcases h.row.2 with ⟨hv, hn⟩ | ⟨g, cap, cur, hv, _⟩
  · exact ⟨none, 0, by rw [hv, hn]⟩
  · exact ⟨_, cap, hv⟩
theorem RefAt.hcell (h : RefAt w xb iv L last) : w.cell? ⟨xb, 0, none⟩ = some iv ∧ w.cell? ⟨xb, 1, none⟩ = some (.int .i64 last) := by
  refine ⟨?_, ?_⟩ <;> rw [cell_of_row w xb _ _ _ _ h.hdr] <;> rfl
theorem RefAt.hfrozen (h : RefAt w xb iv L last) (j : Nat) : w.frozen? ⟨xb, j, none⟩ = false := frozen_of_row w xb j _ _ h.hdr
theorem RefAt.ecell {g m cap : Nat} (h : RefAt w xb (.slice (some ⟨g, 0, none⟩) m cap) L last) {i : Nat} {e : Ent} (hi : L[i]? = some e) :
    w.cell? ⟨g, i * 3, none⟩ = some (.int .i64 e.id) ∧ w.cell? ⟨g, i * 3 + 1, none⟩ = some (.int .u64 e.due) ∧ w.cell? ⟨g, i * 3 + 2, none⟩ = some e.val := by
  have hil : i < L.length := (List.getElem?_eq_some_iff.1 hi).1
  obtain ⟨g', cap', hv⟩ := h.form (by omega)
  cases hv
  have := flatR_get L i e hi
  rw [h.row.cellAt _ (by omega), h.row.cellAt _ (by omega), h.row.cellAt _ (by omega)]
  exact this
theorem RefAt.efrozen {g m cap : Nat} (h : RefAt w xb (.slice (some ⟨g, 0, none⟩) m cap) L last) (hn : L.length = m) (j : Nat) : w.frozen? ⟨g, j, none⟩ = false := by
  subst hn
  exact h.row.frozenAt j
end

theorem inc_get {L : List Ent} (h : L.Pairwise (fun a b => a.id < b.id)) {i j : Nat} {a b : Ent} (hi : L[i]? = some a) (hj : L[j]? = some b) (hij : i < j) : a.id < b.id := by
  have := List.pairwise_iff_getElem.1 h i j (List.getElem?_eq_some_iff.1 hi).1 (List.getElem?_eq_some_iff.1 hj).1 hij
  rw [(List.getElem?_eq_some_iff.1 hi).2, (List.getElem?_eq_some_iff.1 hj).2] at this
  exact this

def sd (d : Int) : Int := if d % 7 = 6 then d else d % 9
theorem sd_bd {d : Int} (hd : 0 ≤ d ∧ d ≤ 18446744073709551615) : 0 ≤ sd d ∧ sd d ≤ 18446744073709551615 := by unfold sd; split <;> omega

theorem someDue_any (d : Int) (w : World) (hd : 0 ≤ d ∧ d ≤ 18446744073709551615) : Calls Try.prog 12 #[.int .u64 d] w fun e w' => e = .returned (.int .u64 (sd d)) ∧ w' = w := by
  obtain ⟨h0, h1⟩ := hd
  have e7 : d.tmod 7 = d % 7 := Int.tmod_eq_emod_of_nonneg h0
  have e9 : d.tmod 9 = d % 9 := Int.tmod_eq_emod_of_nonneg h0
  by_cases h : d % 7 = 6
  · go_enter Try.func12, Try.ntmps12
    go_wp2
    go_ret
    exact ⟨ret_int (by unfold sd; rw [if_pos (by omega)]), rfl⟩
  · go_enter Try.func12, Try.ntmps12
    go_wp2
    go_ret
    exact ⟨ret_int (by unfold sd; rw [if_neg (by omega)]), rfl⟩

set_option maxHeartbeats 1000000 in
set_option maxRecDepth 100000 in
theorem find_any (xb : Nat) (iv : Value) (L : List Ent) (last : Int) (k : Int) (w : World) (h : RefAt w xb iv L last) :
    Calls Try.prog 10 #[.pointer (some ⟨xb, 0, none⟩), .int .i64 k] w fun e w' => w' = w ∧ ((e = .returned (.int .i64 (-1)) ∧ ∀ (i : Nat) (e : Ent), L[i]? = some e → e.id ≠ k) ∨ ∃ (i : Nat) (en : Ent), e = .returned (.int .i64 i) ∧ L[i]? = some en ∧ en.id = k) := by
  have hlen := h.lst.len
  obtain ⟨n, hn⟩ : ∃ n, L.length = n := ⟨_, rfl⟩
  obtain ⟨a, cap, rfl⟩ := h.form0
  have c0 := h.hcell.1
  rw [hn] at h c0 hlen
  have HS := Lib.hid (And.intro h hn)
  clear h hn
  go_enter Try.func10, Try.ntmps10
  go_wp2_with fail
  go_loopg [5] (n + 1) (fun g s wr => ∃ (i : Nat), s = .int .i64 i ∧ i ≤ n ∧ n - i < g ∧ wr = w ∧ Hid (∀ (j : Nat) (e : Ent), j < i → L[j]? = some e → e.id ≠ k))
  case atStart => exact ⟨0, by go_num, by omega, by omega, rfl, fun j e h => by omega⟩
  case round =>
    obtain ⟨i, rfl, hin, hig, rfl, HR⟩ := hrel
    by_cases hi : i < n
    · obtain ⟨ei, gi⟩ : ∃ e, L[i]? = some e := ⟨_, List.getElem?_eq_getElem (by have := HS.out.2; omega)⟩
      obtain ⟨g, cap', hv⟩ := HS.out.1.form (by have := HS.out.2; omega)
      obtain rfl : a = some ⟨g, 0, none⟩ := by cases hv; rfl
      obtain ⟨a0, -, -⟩ := HS.out.1.ecell gi
      have HG := Lib.hid gi
      have p1 : (0 : Int) ≤ (i : Int) := by omega
      have p2 : (i : Int) < (n : Int) := by omega
      clear gi hv
      by_cases hk : ei.id = k
      · subst hk
        go_wp2_with fail
        go_ret
        exact ⟨rfl, Or.inr ⟨i, ei, rfl, HG.out, rfl⟩⟩
      · have hkb : (ei.id == k) = false := by simpa using hk
        have HK := Lib.hid hk
        clear hk
        go_wp2_with fail
        go_roundg (n - i)
        case measure => exact hig
        case rel =>
          refine ⟨i + 1, by go_num, by omega, by omega, rfl, fun j e hj he => ?_⟩
          by_cases hji : j = i
          · subst hji
            rw [HG.out] at he
            cases he
            exact HK.out
          · exact HR.out j e (by omega) he
    · obtain rfl : i = n := by omega
      have p2 : ¬ ((i : Int) < (i : Int)) := by omega
      go_wp2_with fail
      go_ret
      exact ⟨rfl, Or.inl ⟨rfl, fun j e he => HR.out j e (by have := (List.getElem?_eq_some_iff.1 he).1; have := HS.out.2; omega) he⟩⟩

/-- Index a holds the first of the least due times among the first m. -/
def Least (L : List Ent) (m a : Nat) (e : Ent) : Prop := L[a]? = some e ∧ a < m ∧ ∀ (j : Nat) (b : Ent), j < m → L[j]? = some b → e.due ≤ b.due ∧ (j < a → e.due < b.due)

theorem Least.not_lt {L : List Ent} {m a : Nat} {e : Ent} (h : Least L m a e) (hm : L.length ≤ m) (hi : L.Pairwise (fun a b => a.id < b.id)) : ∀ (j : Nat) (b : Ent), L[j]? = some b → ¬ b.lt e := by
  intro j b hj
  have hl := (List.getElem?_eq_some_iff.1 hj).1
  obtain ⟨h1, h2⟩ := h.2.2 j b (by omega) hj
  rcases Nat.lt_trichotomy j a with h3 | h3 | h3
  · have := h2 h3
    unfold Ent.lt
    omega
  · subst h3
    rw [h.1] at hj
    cases hj
    exact lt_irrefl' _
  · have := inc_get hi h.1 hj h3
    unfold Ent.lt
    omega

set_option maxHeartbeats 2000000 in
set_option maxRecDepth 100000 in
theorem first_any (xb : Nat) (iv : Value) (L : List Ent) (last : Int) (w : World) (h : RefAt w xb iv L last) :
    Calls Try.prog 16 #[.pointer (some ⟨xb, 0, none⟩)] w fun e w' => Fr No w w' ∧ ((e = .returned (.int .i64 (-1)) ∧ L = []) ∨ ∃ (a : Nat) (en : Ent), e = .returned (.int .i64 a) ∧ Least L L.length a en) := by
  have hlen := h.lst.len
  obtain ⟨n, hn⟩ : ∃ n, L.length = n := ⟨_, rfl⟩
  obtain ⟨a, cap, rfl⟩ := h.form0
  rw [hn] at h hlen ⊢
  have HS := Lib.hid (And.intro h hn)
  clear h hn
  go_enter Try.func16, Try.ntmps16
  go_wp2_with fail
  go_loopg [3, 4] (n + 1) (fun g st s wr => ∃ (i : Nat) (t : Int), st = .int .i64 t ∧ s = .int .i64 i ∧ i ≤ n ∧ n - i < g ∧ Hid (Fr No w wr ∧ ((i = 0 ∧ t = -1) ∨ ∃ (b : Nat) (e : Ent), t = b ∧ Least L i b e)))
  case atStart => exact ⟨0, -1, by go_num, by go_num, by omega, by omega, Fr.refl _ _, Or.inl ⟨rfl, rfl⟩⟩
  case round =>
    obtain ⟨i, t, rfl, rfl, hin, hig, HR⟩ := hrel
    have HX := Lib.hid (HS.out.1.frNo HR.out.1)
    have c0 := HX.out.hcell.1
    by_cases hi : i < n
    · obtain ⟨ei, gi⟩ : ∃ e, L[i]? = some e := ⟨_, List.getElem?_eq_getElem (by have := HS.out.2; omega)⟩
      obtain ⟨g, cap', hv⟩ := HS.out.1.form (by have := HS.out.2; omega)
      obtain rfl : a = some ⟨g, 0, none⟩ := by cases hv; rfl
      obtain ⟨-, a1, -⟩ := HX.out.ecell gi
      have p1 : (0 : Int) ≤ (i : Int) := by omega
      have p2 : (i : Int) < (n : Int) := by omega
      clear hv
      rcases HR.out.2 with ⟨h0, ht⟩ | ⟨b, eb, ht, hL⟩
      · subst h0 ht
        have HG := Lib.hid gi
        clear gi
        have hd : decide ((-1 : Int) < 0) = true := by decide
        go_wp2_with fail
        go_quiet (fail)
        go_wp2_with fail
        go_roundg (n - 0)
        case measure => exact hig
        case rel =>
          refine ⟨0 + 1, 0, by go_num, by go_num, by omega, by omega, ?_, Or.inr ⟨0, ei, rfl, HG.out, by omega, fun j b hj hb => ?_⟩⟩
          · exact HR.out.1.trans ⟨rfl, rfl, rfl, Nat.le_refl _, fun _ _ _ => rfl⟩
          · obtain rfl : j = 0 := by omega
            rw [HG.out] at hb
            cases hb
            exact ⟨Int.le_refl _, fun h => by omega⟩
      · subst ht
        obtain ⟨-, b1, -⟩ := HX.out.ecell hL.1
        have hbi := hL.2.1
        have HG := Lib.hid (And.intro gi hL)
        clear gi hL
        have p3 : (0 : Int) ≤ (b : Int) := by omega
        have p4 : (b : Int) < (n : Int) := by omega
        have hd : decide ((b : Int) < 0) = false := decide_eq_false (by omega)
        by_cases hlt : ei.due < eb.due
        · go_wp2_with fail
          go_quiet (fail)
          go_wp2_with fail
          go_roundg (n - i)
          case measure => exact hig
          case rel =>
            obtain ⟨gi, hL⟩ := HG.out
            refine ⟨i + 1, i, by go_num, by go_num, by omega, by omega, HR.out.1.trans ⟨rfl, rfl, rfl, Nat.le_refl _, fun _ _ _ => rfl⟩, Or.inr ⟨i, ei, rfl, gi, by omega, fun j c hj hc => ?_⟩⟩
            by_cases hji : j = i
            · subst hji; rw [gi] at hc; cases hc; exact ⟨Int.le_refl _, fun h => by omega⟩
            · have := hL.2.2 j c (by omega) hc
              exact ⟨by omega, fun _ => by omega⟩
        · go_wp2_with fail
          go_quiet (fail)
          go_wp2_with fail
          go_roundg (n - i)
          case measure => exact hig
          case rel =>
            obtain ⟨gi, hL⟩ := HG.out
            refine ⟨i + 1, b, by go_num, by go_num, by omega, by omega, HR.out.1.trans ⟨rfl, rfl, rfl, Nat.le_refl _, fun _ _ _ => rfl⟩, Or.inr ⟨b, eb, rfl, hL.1, by omega, fun j c hj hc => ?_⟩⟩
            by_cases hji : j = i
            · subst hji; rw [gi] at hc; cases hc; exact ⟨by omega, fun h => by omega⟩
            · exact hL.2.2 j c (by omega) hc
    · obtain rfl : i = n := by omega
      have p2 : ¬ ((i : Int) < (i : Int)) := by omega
      go_wp2_with fail
      go_ret
      refine ⟨HR.out.1, ?_⟩
      rcases HR.out.2 with ⟨h0, ht⟩ | ⟨b, eb, ht, hL⟩
      · left
        refine ⟨by rw [ht]; rfl, List.eq_nil_of_length_eq_zero (by rw [HS.out.2]; exact h0)⟩
      · right
        exact ⟨b, by rw [ht]; rfl, eb, hL⟩

end Go.Proofs.Ytbobokhlcbojkaa
