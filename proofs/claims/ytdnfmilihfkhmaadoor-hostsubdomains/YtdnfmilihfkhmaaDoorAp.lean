/-
  append over rows whose elements are one cell each, as laws for the walk.
  Conditions: as each theorem says.
-/
import Derived.Test.YtdnfmilihfkhmaaDoorMem
namespace Go.Proofs.YtdnfmilihfkhmaaDoor
open Go.ChangeShapes Go.WideShapes Go.ChangeAt Go.RowKit
set_option linter.unusedVariables false

/-- A slice type whose elements are one cell each. -/
structure El (st e : TypeId) (B : Nat) : Prop where
  und : Tryd.prog.underlying st = some (.slice e)
  info : ∃ z, (Tryd.prog.info? e).map (fun i => (i.zero, i.size, i.bytes)) = some (some z, 1, B) ∧ z.cells.size = 1

theorem el16 : El 37 39 2 := ⟨Tryd.underlying37, ⟨.int .u16 0, by kernel_rfl, rfl⟩⟩
theorem el8 : El 34 5 1 := ⟨Tryd.underlying34, ⟨.int .u8 0, by kernel_rfl, rfl⟩⟩
theorem elS : El 68 9 16 := ⟨Tryd.underlying68, ⟨.string ⟨#[]⟩, by kernel_rfl, rfl⟩⟩

theorem run_append_vals {w : World} {st e : TypeId} {B : Nat} (E : El st e B) (ty : TypeId) (base : Nat) (v : Value) (n : Nat) (xs : List Value) (hown : w.ownsRow base e 1 v n xs) (A : Option Addr) (m c : Nat) (ys : List Value) (hy1 : ∀ u ∈ ys, u.oneCell' = true) (hm : ys.length = m) (hA : At w A ys) (hnil : A = none → c = 0)
    (h63 : n + m ≤ maxLen) (hbytes : (n + m) * B ≤ 140737488355328) (hbase : base ≤ w.heap.size) :
    ∃ a cap w', (Builtin.append_ #[st, st] ty #[v, .slice A m c]).run Tryd.prog w = .ok (.slice a (n + m) cap) w' ∧ w'.ownsRow base e 1 (.slice a (n + m) cap) (n + m) (xs ++ ys) ∧ w.grownBy w' v.ownBlock ∧ ((Value.slice a (n + m) cap).ownBlock = v.ownBlock ∨ (Value.slice a (n + m) cap).ownBlock = some w.heap.size) := by
  obtain ⟨z, hinfo, hzl⟩ := E.info
  obtain ⟨i0, hi, hz0, hz1, hz2⟩ := info_parts hinfo
  cases A with
  | none =>
    obtain rfl : ys = [] := by
      cases ys with
      | nil => rfl
      | cons y ys => obtain ⟨b, off, h, _⟩ := hA 0 y rfl; cases h
    obtain rfl : m = 0 := by simpa using hm.symm
    obtain rfl := hnil rfl
    obtain ⟨a, cap, rfl, _⟩ := row_any hown
    exact ⟨a, cap, w, run_append_owned_none w base st ty e i0 1 E.und hi _ n _ hown, by simpa using hown, World.grownBy.refl w _, .inl rfl⟩
  | some ad =>
    obtain ⟨v', w', hr, h2, h3, _, h5⟩ := run_append_own_at (P := Tryd.prog) w base st ty e i0 _ 1 B E.und hi hz0 hz1 hz2 hzl (by decide) v n _ hown ad m c ys (by omega) hA.src hy1 h63 hbytes hbase
    obtain ⟨a, cap, rfl, _⟩ := row_any h2
    exact ⟨a, cap, w', hr, h2, h3, h5⟩

theorem wp_append_vals {w : World} {st e : TypeId} {B : Nat} (E : El st e B) {o : Oper} {a : Act} {K : Act → World → Prop} {Q : Exit → Act → World → Prop} (s x : Operand)
    (ho : o.op = .call { callee := .builtin .append, args := #[s, x], argTypes := #[st, st] })
    (base : Nat) (v : Value) (n : Nat) (xs : List Value) (hs : a.eval s = v) (hown : w.ownsRow base e 1 v n xs) (A : Option Addr) (m c : Nat) (ys : List Value) (hx : a.eval x = .slice A m c) (hy1 : ∀ u ∈ ys, u.oneCell' = true) (hm : ys.length = m) (hA : At w A ys) (hnil : A = none → c = 0)
    (h63 : n + m ≤ maxLen) (hbytes : (n + m) * B ≤ 140737488355328) (hbase : base ≤ w.heap.size)
    (h : ∀ a2 cap w', w'.ownsRow base e 1 (.slice a2 (n + m) cap) (n + m) (xs ++ ys) → w.grownBy w' v.ownBlock → ((Value.slice a2 (n + m) cap).ownBlock = v.ownBlock ∨ (Value.slice a2 (n + m) cap).ownBlock = some w.heap.size) → K (a.put o.dst (.slice a2 (n + m) cap)) w') : o.wp Tryd.prog a w K Q := by
  obtain ⟨a2, cap, w', hr, h2, h3, h4⟩ := run_append_vals E o.type base v n xs hown A m c ys hy1 hm hA hnil h63 hbytes hbase
  exact Lib.wp_append_run w s x st st ho v _ hs hx _ _ hr (h a2 cap w' h2 h3 h4)

theorem wpList_append_vals {w : World} {st e : TypeId} {B : Nat} (E : El st e B) {ops : Array Oper} {rest : List Oper} {o : Oper} {a : Act} {Q : Exit → Act → World → Prop} (hgd : o.guard = none) (s x : Operand)
    (ho : o.op = .call { callee := .builtin .append, args := #[s, x], argTypes := #[st, st] })
    (base : Nat) (v : Value) (n : Nat) (xs : List Value) (hs : a.eval s = v) (hown : w.ownsRow base e 1 v n xs) (A : Option Addr) (m c : Nat) (ys : List Value) (hx : a.eval x = .slice A m c) (hy1 : ∀ u ∈ ys, u.oneCell' = true) (hm : ys.length = m) (hA : At w A ys) (hnil : A = none → c = 0)
    (h63 : n + m ≤ maxLen) (hbytes : (n + m) * B ≤ 140737488355328) (hbase : base ≤ w.heap.size)
    (h : ∀ a2 cap w', w'.ownsRow base e 1 (.slice a2 (n + m) cap) (n + m) (xs ++ ys) → w.grownBy w' v.ownBlock → ((Value.slice a2 (n + m) cap).ownBlock = v.ownBlock ∨ (Value.slice a2 (n + m) cap).ownBlock = some w.heap.size) → wpList Tryd.prog ops Q rest (a.put o.dst (.slice a2 (n + m) cap)) w') : wpList Tryd.prog ops Q (o :: rest) a w :=
  wpList_plain hgd fun _ hK => wp_append_vals E s x ho base v n xs hs hown A m c ys hx hy1 hm hA hnil h63 hbytes hbase fun a2 cap w' h2 h3 h4 => hK _ _ (h a2 cap w' h2 h3 h4)

theorem step_append_vals {w : World} {st e : TypeId} {B : Nat} (E : El st e B) {ops : Array Oper} {o : Oper} {a : Act} {K : Act → World → Prop} {Q : Exit → Act → World → Prop} {F : Prop} (hgd : o.guard = none) (s x : Operand)
    (ho : o.op = .call { callee := .builtin .append, args := #[s, x], argTypes := #[st, st] })
    (base : Nat) (v : Value) (n : Nat) (xs : List Value) (hs : a.eval s = v) (hown : w.ownsRow base e 1 v n xs) (A : Option Addr) (m c : Nat) (ys : List Value) (hx : a.eval x = .slice A m c) (hy1 : ∀ u ∈ ys, u.oneCell' = true) (hm : ys.length = m) (hA : At w A ys) (hnil : A = none → c = 0)
    (h63 : n + m ≤ maxLen) (hbytes : (n + m) * B ≤ 140737488355328) (hbase : base ≤ w.heap.size)
    (h : ∀ a2 cap w', w'.ownsRow base e 1 (.slice a2 (n + m) cap) (n + m) (xs ++ ys) → w.grownBy w' v.ownBlock → ((Value.slice a2 (n + m) cap).ownBlock = v.ownBlock ∨ (Value.slice a2 (n + m) cap).ownBlock = some w.heap.size) → K (a.put o.dst (.slice a2 (n + m) cap)) w') :
    if Region.wanted o (yielded ops a.tmps) = true then Oper.wp Tryd.prog o a w K Q else F := by
  have hw : Region.wanted o (yielded ops a.tmps) = true := by simp [Region.wanted, hgd]
  rw [if_pos hw]
  exact wp_append_vals E s x ho base v n xs hs hown A m c ys hx hy1 hm hA hnil h63 hbytes hbase h

/-- What grew is new. -/
theorem Fr.own_grown {w0 w w' : World} {base e : Nat} {v : Value} {n : Nat} {xs : List Value} (hf : Fr No w0 w) (hown : w.ownsRow base e 1 v n xs) (hb : w0.heap.size ≤ base) (hg : w.grownBy w' v.ownBlock) : Fr No w0 w' :=
  hf.ofNew (Fr.grown (S := fun k => base ≤ k) hg (fun k hk => (hown.lt k hk).1)) fun k hk => .inr (by omega)
end Go.Proofs.YtdnfmilihfkhmaaDoor
