/-
  LAWS of appending many wide elements to a row that a call has made; what a row of rules holds, cell by cell; no walk.
  Conditions: as each theorem says.
-/
import Derived.Test.YtnadendhboiliaaRa
import Derived.Great.BuildSlice
namespace Go.Proofs.Ytnadendhboiliaa
open Go.ChangeShapes Go.WideShapes Go.ChangeAt Go.RowKit
set_option linter.unusedVariables false

theorem run_append_many {w : World} {st e : TypeId} {K B : Nat} (E : Ew st e K B) (ty : TypeId) (base : Nat) (v : Value) (n : Nat) (xs : List Value) (hown : w.ownsRow base e K v n xs) (A : Option Addr) (m c : Nat) (ys : List Value) (hy1 : ∀ u ∈ ys, u.oneCell' = true) (hm : ys.length = m * K) (hA : At w A ys) (hnil : A = none → m = 0 ∧ c = 0)
    (hbytes : (n + m) * B ≤ 140737488355328) (hB : 0 < B) (hbase : base ≤ w.heap.size) :
    ∃ a cap w', (Builtin.append_ #[st, st] ty #[v, .slice A m c]).run Try.prog w = .ok (.slice a (n + m) cap) w' ∧ w'.ownsRow base e K (.slice a (n + m) cap) (n + m) (xs ++ ys) ∧ w.grownBy w' v.ownBlock ∧ ((Value.slice a (n + m) cap).ownBlock = v.ownBlock ∨ (Value.slice a (n + m) cap).ownBlock = some w.heap.size) := by
  obtain ⟨z, hinfo, hzl⟩ := E.info
  obtain ⟨i0, hi, hz0, hz1, hz2⟩ := info_parts hinfo
  have hn : n + m ≤ maxLen := by
    have : (n + m) * 1 ≤ (n + m) * B := Nat.mul_le_mul_left _ hB
    unfold maxLen; omega
  cases A with
  | none =>
    obtain ⟨rfl, rfl⟩ := hnil rfl
    obtain rfl : ys = [] := List.eq_nil_of_length_eq_zero (by omega)
    obtain ⟨a, cap, rfl, _⟩ := row_any hown
    exact ⟨a, cap, w, run_append_owned_none w base st ty e i0 K E.und hi _ n _ hown, by simpa using hown, World.grownBy.refl w _, .inl rfl⟩
  | some ad =>
    obtain ⟨v', w', hr, h2, h3, _, h5⟩ := run_append_own_at (P := Try.prog) w base st ty e i0 _ K B E.und hi hz0 hz1 hz2 hzl E.pos v n _ hown ad m c ys hm hA.src hy1 hn hbytes hbase
    obtain ⟨a, cap, rfl, _⟩ := row_any h2
    exact ⟨a, cap, w', hr, h2, h3, h5⟩
theorem wpList_append_many {w : World} {st e : TypeId} {K B : Nat} (E : Ew st e K B) {ops : Array Oper} {rest : List Oper} {o : Oper} {a : Act} {Q : Exit → Act → World → Prop} (hgd : o.guard = none) (s x : Operand)
    (ho : o.op = .call { callee := .builtin .append, args := #[s, x], argTypes := #[st, st] })
    (base : Nat) (v : Value) (n : Nat) (xs : List Value) (hs : a.eval s = v) (hown : w.ownsRow base e K v n xs) (A : Option Addr) (m c : Nat) (ys : List Value) (hx : a.eval x = .slice A m c) (hy1 : ∀ u ∈ ys, u.oneCell' = true) (hm : ys.length = m * K) (hA : At w A ys) (hnil : A = none → m = 0 ∧ c = 0)
    (hbytes : (n + m) * B ≤ 140737488355328) (hB : 0 < B) (hbase : base ≤ w.heap.size)
    (h : ∀ a2 cap w', w'.ownsRow base e K (.slice a2 (n + m) cap) (n + m) (xs ++ ys) → w.grownBy w' v.ownBlock → ((Value.slice a2 (n + m) cap).ownBlock = v.ownBlock ∨ (Value.slice a2 (n + m) cap).ownBlock = some w.heap.size) → wpList Try.prog ops Q rest (a.put o.dst (.slice a2 (n + m) cap)) w') : wpList Try.prog ops Q (o :: rest) a w := by
  obtain ⟨a2, cap, w', hr, h2, h3, h4⟩ := run_append_many E o.type base v n xs hown A m c ys hy1 hm hA hnil hbytes hB hbase
  exact wpList_plain hgd fun _ hK => Lib.wp_append_run w s x st st ho v _ hs hx _ _ hr (hK _ _ (h a2 cap w' h2 h3 h4))
theorem step_append_many {w : World} {st e : TypeId} {K B : Nat} (E : Ew st e K B) {ops : Array Oper} {o : Oper} {a : Act} {R : Act → World → Prop} {Q : Exit → Act → World → Prop} {F : Prop} (hgd : o.guard = none) (s x : Operand)
    (ho : o.op = .call { callee := .builtin .append, args := #[s, x], argTypes := #[st, st] })
    (base : Nat) (v : Value) (n : Nat) (xs : List Value) (hs : a.eval s = v) (hown : w.ownsRow base e K v n xs) (A : Option Addr) (m c : Nat) (ys : List Value) (hx : a.eval x = .slice A m c) (hy1 : ∀ u ∈ ys, u.oneCell' = true) (hm : ys.length = m * K) (hA : At w A ys) (hnil : A = none → m = 0 ∧ c = 0)
    (hbytes : (n + m) * B ≤ 140737488355328) (hB : 0 < B) (hbase : base ≤ w.heap.size)
    (h : ∀ a2 cap w', w'.ownsRow base e K (.slice a2 (n + m) cap) (n + m) (xs ++ ys) → w.grownBy w' v.ownBlock → ((Value.slice a2 (n + m) cap).ownBlock = v.ownBlock ∨ (Value.slice a2 (n + m) cap).ownBlock = some w.heap.size) → R (a.put o.dst (.slice a2 (n + m) cap)) w') :
    if Region.wanted o (yielded ops a.tmps) = true then Oper.wp Try.prog o a w R Q else F := by
  have hw : Region.wanted o (yielded ops a.tmps) = true := by simp [Region.wanted, hgd]
  rw [if_pos hw]
  obtain ⟨a2, cap, w', hr, h2, h3, h4⟩ := run_append_many E o.type base v n xs hown A m c ys hy1 hm hA hnil hbytes hB hbase
  exact Lib.wp_append_run w s x st st ho v _ hs hx _ _ hr (h a2 cap w' h2 h3 h4)
theorem RowR.at {w : World} {a : Option Addr} {A : List Ru} (h : RowR w a A) : At w a (flatR A) := fun j v hj => by
  have hn : A ≠ [] := fun hc => by rw [hc] at hj; cases hj
  obtain ⟨b, o, cs, T, f, h1, h2, h3⟩ := h.2 hn
  exact ⟨b, o, h1, cell_of h2 (h3 _ _ hj)⟩
theorem RowR.nil (w : World) (a : Option Addr) : RowR w a [] := ⟨fun r hr => (by cases hr), fun h => absurd rfl h⟩
/-- A row that lies behind a given place. -/
def FarR (B : Nat) (a : Option Addr) (L : List Ru) : Prop := ∀ ad, a = some ad → L ≠ [] → B ≤ ad.block
end Go.Proofs.Ytnadendhboiliaa
