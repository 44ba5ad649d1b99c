/-
  copy, clear and append over rows of integers, as laws for the walk.
  Conditions: as each theorem says.
-/
import Derived.Test.YtmgpeonnmfidhaaMem
namespace Go.Proofs.Ytmgpeonnmfidhaa
open Go.ChangeShapes Go.WideShapes Go.ChangeAt Go.RowKit
set_option linter.unusedVariables false

/-- A piece of a ring's row is overwritten by copy. -/
theorem wpList_copy_ring {w : World} {ops : Array Oper} {rest : List Oper} {o : Oper} {a : Act} {Q : Exit → Act → World → Prop} (hgd : o.guard = none) (d s : Operand)
    (ho : o.op = .call { callee := .builtin .copy, args := #[d, s], argTypes := #[34, 34] })
    (dp sp : Option Addr) (dLen dCap sLen sCap : Nat) (hd : a.eval d = .slice dp dLen dCap) (hs : a.eval s = .slice sp sLen sCap)
    {hb : Nat} {sv : Value} {L : List Int} {f c size : Nat} (raw : Raw w hb sv L f c size) (off : Nat) (cs : List Int) (hn : cs.length = Nat.min sLen dLen)
    (hpos : 0 < cs.length → ∃ g, sv = .slice (some ⟨g, 0, none⟩) L.length L.length ∧ dp = some ⟨g, off, none⟩) (hsrc : At w sp cs) (hfit : off + cs.length ≤ L.length)
    (h : ∀ w', Raw w' hb sv (splice L off cs) f c size → Fr (fun k => sv.ownBlock = some k) w w' → wpList Try.prog ops Q rest (a.put o.dst (goInt cs.length)) w') : wpList Try.prog ops Q (o :: rest) a w := by
  by_cases h0 : cs.length = 0
  · obtain rfl : cs = [] := List.eq_nil_of_length_eq_zero h0
    refine wpList_copy_nothing hgd d s 34 34 ho 3 Try.underlying34 size3 dp sp dLen dCap sLen sCap hd hs (by simpa using hn.symm) ?_
    have hs : splice L off ([] : List Int) = L := by simp [splice]
    have := h w (by rw [hs]; exact raw) (Fr.refl _ _)
    simpa using this
  · obtain ⟨g, rfl, rfl⟩ := hpos (by omega)
    obtain ⟨g', hv, hg, hne⟩ := raw.form (by omega)
    cases hv
    obtain ⟨b, so, hsp, _⟩ := hsrc 0 cs[0] (List.getElem?_eq_getElem (by omega))
    subst hsp
    refine wpList_copy_own hgd d s 34 34 ho 3 Try.underlying34 size3 g off dLen dCap ⟨b, so, none⟩ sLen sCap hd hs _ 3 hg (ints cs) (by rw [ints_length]; exact hn) hsrc.src (by simpa [ints_length] using hfit) (ints_one cs) ?_
    rw [ints_length]
    refine h _ ?_ (Fr.setRow _ _ _ _ rfl)
    have := raw.splice off cs hfit
    simpa [ints_length] using this

theorem run_clear_none {w : World} (ty : TypeId) (d : Option Addr) (n c : Nat) (h : d = none ∨ n = 0) : (Builtin.clear_ #[34] ty #[.slice d n c]).run Try.prog w = .ok (.tuple #[]) w := by
  rcases h with rfl | rfl
  · simp [Builtin.clear_, run_underlying Try.underlying34]
  · cases d <;> simp [Builtin.clear_, run_underlying Try.underlying34]

theorem run_clear_row {w : World} (ty : TypeId) (g off n c : Nat) (cur : List Int) (hn : 0 < n) (hg : w.heap[g]? = some (.cells (ints cur).toArray 3 (0, 0))) (hfit : off + n ≤ cur.length) :
    (Builtin.clear_ #[34] ty #[.slice (some ⟨g, off, none⟩) n c]).run Try.prog w = .ok (.tuple #[]) (w.setRow g ((ints cur).take off ++ (ints (List.replicate n 0) ++ (ints cur).drop (off + (ints (List.replicate n 0)).length))).toArray) := by
  obtain ⟨i0, hi, hz0, hz1, hz2⟩ := info_parts info3
  have hv : ∀ w, (zeroValue 3).run Try.prog w = .ok (.int .i64 0) w := fun w => by simp [zeroValue, typeInfo, hi, hz0]
  have hzc : (Builtin.zeroCells (Value.int .i64 0).cells n).toList = ints (List.replicate n 0) := by
    simp [Builtin.zeroCells, Value.cells, ints]
    apply List.ext_getElem
    · simp
    · intro i h1 h2
      simp [Nat.mod_one]
  have hst := run_storeCells_at Try.prog g off 3 (ints (List.replicate n 0)) 0 (ints cur).toArray w hg (by simp [ints_length]; omega) (ints_one _)
  simp only [Nat.add_zero] at hst
  obtain ⟨m, rfl⟩ : ∃ m, n = m + 1 := ⟨n - 1, by omega⟩
  simp [Builtin.clear_, run_underlying Try.underlying34, hv, hzc, hst]

/-- A piece of a ring's row is cleared. -/
theorem wpList_clear_ring {w : World} {ops : Array Oper} {rest : List Oper} {o : Oper} {a : Act} {Q : Exit → Act → World → Prop} (hgd : o.guard = none) (d : Operand)
    (ho : o.op = .call { callee := .builtin .clear, args := #[d], argTypes := #[34] })
    (dp : Option Addr) (n dCap : Nat) (hd : a.eval d = .slice dp n dCap)
    {hb : Nat} {sv : Value} {L : List Int} {f c size : Nat} (raw : Raw w hb sv L f c size) (off : Nat)
    (hpos : 0 < n → ∃ g, sv = .slice (some ⟨g, 0, none⟩) L.length L.length ∧ dp = some ⟨g, off, none⟩) (hfit : off + n ≤ L.length)
    (h : ∀ w', Raw w' hb sv (splice L off (List.replicate n 0)) f c size → Fr (fun k => sv.ownBlock = some k) w w' → wpList Try.prog ops Q rest (a.put o.dst (.tuple #[])) w') : wpList Try.prog ops Q (o :: rest) a w := by
  refine wpList_plain hgd fun K hK => ?_
  by_cases h0 : n = 0
  · subst h0
    have hrun := run_clear_none (w := w) o.type dp 0 dCap (.inr rfl)
    unfold Oper.wp
    simp [execOp, ho, resolve, invoke, builtin, hd, hrun, Result.andThen]
    have hs : splice L off (List.replicate 0 0) = L := by simp [splice]
    exact hK _ _ (h w (by rw [hs]; exact raw) (Fr.refl _ _))
  · obtain ⟨g, rfl, rfl⟩ := hpos (by omega)
    obtain ⟨g', hv, hg, hne⟩ := raw.form (by omega)
    cases hv
    have hrun := run_clear_row (w := w) o.type g off n dCap L (by omega) hg hfit
    have hr := raw.splice off (List.replicate n 0) (by simpa using hfit)
    have hf : Fr (fun k => (Value.slice (some ⟨g, 0, none⟩) L.length L.length).ownBlock = some k) w (w.setRow g ((ints L).take off ++ (ints (List.replicate n 0) ++ (ints L).drop (off + (ints (List.replicate n 0)).length))).toArray) := Fr.setRow _ _ _ _ rfl
    have hk := hK _ _ (h _ hr hf)
    clear hr hf
    revert hrun hk
    generalize w.setRow g _ = w1
    intro hrun hk
    unfold Oper.wp
    simp [execOp, ho, resolve, invoke, builtin, hd, hrun, Result.andThen]
    exact hk

theorem run_append_ints {w : World} (ty : TypeId) (base : Nat) (v : Value) (n : Nat) (xs : List Int) (hown : w.ownsRow base 3 1 v n (ints xs)) (A : Option Addr) (m c : Nat) (ys : List Int) (hm : ys.length = m) (hA : At w A ys) (hnil : A = none → c = 0)
    (h63 : n + m ≤ maxLen) (hbytes : (n + m) * 8 ≤ 140737488355328) (hbase : base ≤ w.heap.size) :
    ∃ a cap w', (Builtin.append_ #[34, 34] ty #[v, .slice A m c]).run Try.prog w = .ok (.slice a (n + m) cap) w' ∧ w'.ownsRow base 3 1 (.slice a (n + m) cap) (n + m) (ints (xs ++ ys)) ∧ w.grownBy w' v.ownBlock ∧ ((Value.slice a (n + m) cap).ownBlock = v.ownBlock ∨ (Value.slice a (n + m) cap).ownBlock = some w.heap.size) := by
  obtain ⟨i0, hi, hz0, hz1, hz2⟩ := info_parts info3
  cases A with
  | none =>
    obtain rfl : ys = [] := by
      cases ys with
      | nil => rfl
      | cons y ys => obtain ⟨b, off, h, _⟩ := hA 0 y rfl; cases h
    obtain rfl : m = 0 := by simpa using hm.symm
    obtain rfl := hnil rfl
    obtain ⟨a, cap, rfl, _⟩ := row_any hown
    exact ⟨a, cap, w, run_append_owned_none w base 34 ty 3 i0 1 Try.underlying34 hi _ n _ hown, by simpa using hown, World.grownBy.refl w _, .inl rfl⟩
  | some ad =>
    obtain ⟨v', w', hr, h2, h3, _, h5⟩ := run_append_own_at (P := Try.prog) w base 34 ty 3 i0 _ 1 8 Try.underlying34 hi hz0 hz1 hz2 rfl (by decide) v n _ hown ad m c (ints ys) (by rw [ints_length, hm]; omega) hA.src (ints_one ys) h63 hbytes hbase
    obtain ⟨a, cap, rfl, _⟩ := row_any h2
    exact ⟨a, cap, w', hr, by rw [ints_append]; exact h2, h3, h5⟩

theorem wp_append_ints {w : World} {o : Oper} {a : Act} {K : Act → World → Prop} {Q : Exit → Act → World → Prop} (s x : Operand)
    (ho : o.op = .call { callee := .builtin .append, args := #[s, x], argTypes := #[34, 34] })
    (base : Nat) (v : Value) (n : Nat) (xs : List Int) (hs : a.eval s = v) (hown : w.ownsRow base 3 1 v n (ints xs)) (A : Option Addr) (m c : Nat) (ys : List Int) (hx : a.eval x = .slice A m c) (hm : ys.length = m) (hA : At w A ys) (hnil : A = none → c = 0)
    (h63 : n + m ≤ maxLen) (hbytes : (n + m) * 8 ≤ 140737488355328) (hbase : base ≤ w.heap.size)
    (h : ∀ a2 cap w', w'.ownsRow base 3 1 (.slice a2 (n + m) cap) (n + m) (ints (xs ++ ys)) → w.grownBy w' v.ownBlock → ((Value.slice a2 (n + m) cap).ownBlock = v.ownBlock ∨ (Value.slice a2 (n + m) cap).ownBlock = some w.heap.size) → K (a.put o.dst (.slice a2 (n + m) cap)) w') : o.wp Try.prog a w K Q := by
  obtain ⟨a2, cap, w', hr, h2, h3, h4⟩ := run_append_ints o.type base v n xs hown A m c ys hm hA hnil h63 hbytes hbase
  exact Lib.wp_append_run w s x 34 34 ho v _ hs hx _ _ hr (h a2 cap w' h2 h3 h4)

theorem wpList_append_ints {w : World} {ops : Array Oper} {rest : List Oper} {o : Oper} {a : Act} {Q : Exit → Act → World → Prop} (hgd : o.guard = none) (s x : Operand)
    (ho : o.op = .call { callee := .builtin .append, args := #[s, x], argTypes := #[34, 34] })
    (base : Nat) (v : Value) (n : Nat) (xs : List Int) (hs : a.eval s = v) (hown : w.ownsRow base 3 1 v n (ints xs)) (A : Option Addr) (m c : Nat) (ys : List Int) (hx : a.eval x = .slice A m c) (hm : ys.length = m) (hA : At w A ys) (hnil : A = none → c = 0)
    (h63 : n + m ≤ maxLen) (hbytes : (n + m) * 8 ≤ 140737488355328) (hbase : base ≤ w.heap.size)
    (h : ∀ a2 cap w', w'.ownsRow base 3 1 (.slice a2 (n + m) cap) (n + m) (ints (xs ++ ys)) → w.grownBy w' v.ownBlock → ((Value.slice a2 (n + m) cap).ownBlock = v.ownBlock ∨ (Value.slice a2 (n + m) cap).ownBlock = some w.heap.size) → wpList Try.prog ops Q rest (a.put o.dst (.slice a2 (n + m) cap)) w') : wpList Try.prog ops Q (o :: rest) a w :=
  wpList_plain hgd fun _ hK => wp_append_ints s x ho base v n xs hs hown A m c ys hx hm hA hnil h63 hbytes hbase fun a2 cap w' h2 h3 h4 => hK _ _ (h a2 cap w' h2 h3 h4)

theorem step_append_ints {w : World} {ops : Array Oper} {o : Oper} {a : Act} {K : Act → World → Prop} {Q : Exit → Act → World → Prop} {E : Prop} (hgd : o.guard = none) (s x : Operand)
    (ho : o.op = .call { callee := .builtin .append, args := #[s, x], argTypes := #[34, 34] })
    (base : Nat) (v : Value) (n : Nat) (xs : List Int) (hs : a.eval s = v) (hown : w.ownsRow base 3 1 v n (ints xs)) (A : Option Addr) (m c : Nat) (ys : List Int) (hx : a.eval x = .slice A m c) (hm : ys.length = m) (hA : At w A ys) (hnil : A = none → c = 0)
    (h63 : n + m ≤ maxLen) (hbytes : (n + m) * 8 ≤ 140737488355328) (hbase : base ≤ w.heap.size)
    (h : ∀ a2 cap w', w'.ownsRow base 3 1 (.slice a2 (n + m) cap) (n + m) (ints (xs ++ ys)) → w.grownBy w' v.ownBlock → ((Value.slice a2 (n + m) cap).ownBlock = v.ownBlock ∨ (Value.slice a2 (n + m) cap).ownBlock = some w.heap.size) → K (a.put o.dst (.slice a2 (n + m) cap)) w') :
    if Region.wanted o (yielded ops a.tmps) = true then Oper.wp Try.prog o a w K Q else E := by
  have hw : Region.wanted o (yielded ops a.tmps) = true := by simp [Region.wanted, hgd]
  rw [if_pos hw]
  exact wp_append_ints s x ho base v n xs hs hown A m c ys hx hm hA hnil h63 hbytes hbase h

end Go.Proofs.Ytmgpeonnmfidhaa
