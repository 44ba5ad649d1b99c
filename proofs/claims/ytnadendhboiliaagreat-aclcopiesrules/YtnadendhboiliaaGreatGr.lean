/-
  CONTRACTS of groupsOf, of longestZeros and of the reference's Group, over this seat's translation: what each call returns.
  Conditions: the argument is an address; eight groups.
  CONTRACTS of longestZeros, over this seat's translation: what the call returns.
  Conditions: eight groups.
  CONTRACTS of strconv.FormatUint to the base 16, over this seat's translation: what each call returns.
  Conditions: the number is below 65536; the package variables are as Glob says.
  append over rows whose elements are one cell each, as laws for the walk.
  Conditions: as each theorem says.
  CONTRACTS of slices.Grow of nil and slices.Concat of two slices of groups, over this seat's translation: what each call returns.
  Conditions: the slices lie in memory.
  CONTRACTS of Unmap and of the reference's Unmap and Valid, over this seat's translation: what each call returns.
  Conditions: the argument is an address.
  CONTRACTS of Compare, of bytes.Compare and of the reference's Compare, over this seat's translation: what each call returns.
  Conditions: the arguments are addresses.
-/
import Derived.Test.YtnadendhboiliaaGreatA
import Derived.Laws.BytesArg
import Derived.Laws.BitsLemmas
import Derived.Deep.RegionHeld3
import Derived.Lib.BytesEntry
import Derived.Lib.Bytealg
namespace Go.Proofs.YtnadendhboiliaaGreat
open Go.ChangeShapes Go.WideShapes Go.ChangeAt Go.RowKit
set_option linter.unusedVariables false

/-- Group i of an address. -/
def grp (xs : List Nat) (i : Nat) : Nat := xs.getD (2 * i) 0 * 256 + xs.getD (2 * i + 1) 0
/-- The eight groups. -/
def grps (xs : List Nat) : List Nat := [grp xs 0, grp xs 1, grp xs 2, grp xs 3, grp xs 4, grp xs 5, grp xs 6, grp xs 7]

theorem get_or {xs : List Nat} (hx : Bytes xs) (i : Nat) (hi : i < 16) : ∃ x, xs[i]? = some x ∧ xs.getD i 0 = x ∧ x < 256 := by
  have h : i < xs.length := by rw [hx.1]; exact hi
  exact ⟨xs[i], List.getElem?_eq_getElem h, by simp [List.getD, List.getElem?_eq_getElem h], hx.2 _ (List.getElem_mem h)⟩

theorem or_group' {a b : Nat} (ha : a < 256) (hb : b < 256) : bits .or .u16 ((a : Int) * 256) (b : Int) = ((a * 256 + b : Nat) : Int) := by
  rw [← or_group ha hb]; simp

end Go.Proofs.YtnadendhboiliaaGreat
namespace Go.Proofs.YtnadendhboiliaaGreat
open Go.ChangeShapes Go.WideShapes Go.ChangeAt Go.RowKit
set_option linter.unusedVariables false

/-- The scan for the longest run of zeros: the groups left, the place, the best start and length, the run at hand. -/
def scanZ : List Nat → Nat → Nat → Nat → Nat → Nat × Nat
  | [], _, s, l, _ => (s, l)
  | g :: gs, i, s, l, r => if g ≠ 0 then scanZ gs (i + 1) s l 0 else if l < r + 1 then scanZ gs (i + 1) (i - r) (r + 1) (r + 1) else scanZ gs (i + 1) s l (r + 1)

end Go.Proofs.YtnadendhboiliaaGreat
namespace Go.Proofs.YtnadendhboiliaaGreat
open Go.ChangeShapes Go.WideShapes Go.ChangeAt Go.RowKit
set_option linter.unusedVariables false

/-- A hexadecimal digit. -/
def hexD (d : Nat) : Nat := if d < 10 then 48 + d else 87 + d
/-- A number's hexadecimal digits. -/
def hexN (n : Nat) : List Nat := if h : n < 16 then [hexD n] else hexN (n / 16) ++ [hexD (n % 16)]
termination_by n
decreasing_by omega

/-- The row of digits while they are written: the last ones are there. -/
def Tail (L D : List Nat) (i : Nat) : Prop := L.length = 65 ∧ L.drop i = D

theorem Tail.set {L D : List Nat} {i d : Nat} (h : Tail L D (i + 1)) (hi : i < 65) : Tail (L.set i d) (d :: D) i := by
  refine ⟨by rw [List.length_set]; exact h.1, ?_⟩
  have hl : i < (L.set i d).length := by rw [List.length_set, h.1]; exact hi
  rw [List.drop_eq_getElem_cons hl, List.getElem_set_self, List.drop_set_of_lt (by omega), h.2]

end Go.Proofs.YtnadendhboiliaaGreat
namespace Go.Proofs.YtnadendhboiliaaGreat
open Go.ChangeShapes Go.WideShapes Go.ChangeAt Go.RowKit
set_option linter.unusedVariables false

/-- A slice type whose elements are one cell each. -/
structure El (st e : TypeId) (B : Nat) : Prop where
  und : Tryz.prog.underlying st = some (.slice e)
  info : ∃ z, (Tryz.prog.info? e).map (fun i => (i.zero, i.size, i.bytes)) = some (some z, 1, B) ∧ z.cells.size = 1

theorem el16 : El 105 109 2 := ⟨Tryz.underlying105, ⟨.int .u16 0, by kernel_rfl, rfl⟩⟩
theorem elS : El 82 9 16 := ⟨Tryz.underlying82, ⟨.string ⟨#[]⟩, by kernel_rfl, rfl⟩⟩

theorem run_append_vals {w : World} {st e : TypeId} {B : Nat} (E : El st e B) (ty : TypeId) (base : Nat) (v : Value) (n : Nat) (xs : List Value) (hown : w.ownsRow base e 1 v n xs) (A : Option Addr) (m c : Nat) (ys : List Value) (hy1 : ∀ u ∈ ys, u.oneCell' = true) (hm : ys.length = m) (hA : At w A ys) (hnil : A = none → c = 0)
    (h63 : n + m ≤ maxLen) (hbytes : (n + m) * B ≤ 140737488355328) (hbase : base ≤ w.heap.size) :
    ∃ a cap w', (Builtin.append_ #[st, st] ty #[v, .slice A m c]).run Tryz.prog w = .ok (.slice a (n + m) cap) w' ∧ w'.ownsRow base e 1 (.slice a (n + m) cap) (n + m) (xs ++ ys) ∧ w.grownBy w' v.ownBlock ∧ ((Value.slice a (n + m) cap).ownBlock = v.ownBlock ∨ (Value.slice a (n + m) cap).ownBlock = some w.heap.size) := by
  obtain ⟨z, hinfo, hzl⟩ := E.info
  obtain ⟨i0, hi, hz0, hz1, hz2⟩ := info_parts hinfo
  cases A with
  | none =>
    obtain rfl : ys = [] := by
      cases ys with
      | nil => rfl
      | cons y ys => obtain ⟨b, off, h, _⟩ := hA 0 y rfl; cases h
    obtain rfl : m = 0 := by simpa using hm.symm
    obtain rfl := hnil rfl
    obtain ⟨a, cap, rfl, _⟩ := row_any hown
    exact ⟨a, cap, w, run_append_owned_none w base st ty e i0 1 E.und hi _ n _ hown, by simpa using hown, World.grownBy.refl w _, .inl rfl⟩
  | some ad =>
    obtain ⟨v', w', hr, h2, h3, _, h5⟩ := run_append_own_at (P := Tryz.prog) w base st ty e i0 _ 1 B E.und hi hz0 hz1 hz2 hzl (by decide) v n _ hown ad m c ys (by omega) hA.src hy1 h63 hbytes hbase
    obtain ⟨a, cap, rfl, _⟩ := row_any h2
    exact ⟨a, cap, w', hr, h2, h3, h5⟩

theorem wp_append_vals {w : World} {st e : TypeId} {B : Nat} (E : El st e B) {o : Oper} {a : Act} {K : Act → World → Prop} {Q : Exit → Act → World → Prop} (s x : Operand)
    (ho : o.op = .call { callee := .builtin .append, args := #[s, x], argTypes := #[st, st] })
    (base : Nat) (v : Value) (n : Nat) (xs : List Value) (hs : a.eval s = v) (hown : w.ownsRow base e 1 v n xs) (A : Option Addr) (m c : Nat) (ys : List Value) (hx : a.eval x = .slice A m c) (hy1 : ∀ u ∈ ys, u.oneCell' = true) (hm : ys.length = m) (hA : At w A ys) (hnil : A = none → c = 0)
    (h63 : n + m ≤ maxLen) (hbytes : (n + m) * B ≤ 140737488355328) (hbase : base ≤ w.heap.size)
    (h : ∀ a2 cap w', w'.ownsRow base e 1 (.slice a2 (n + m) cap) (n + m) (xs ++ ys) → w.grownBy w' v.ownBlock → ((Value.slice a2 (n + m) cap).ownBlock = v.ownBlock ∨ (Value.slice a2 (n + m) cap).ownBlock = some w.heap.size) → K (a.put o.dst (.slice a2 (n + m) cap)) w') : o.wp Tryz.prog a w K Q := by
  obtain ⟨a2, cap, w', hr, h2, h3, h4⟩ := run_append_vals E o.type base v n xs hown A m c ys hy1 hm hA hnil h63 hbytes hbase
  exact Lib.wp_append_run w s x st st ho v _ hs hx _ _ hr (h a2 cap w' h2 h3 h4)

theorem wpList_append_vals {w : World} {st e : TypeId} {B : Nat} (E : El st e B) {ops : Array Oper} {rest : List Oper} {o : Oper} {a : Act} {Q : Exit → Act → World → Prop} (hgd : o.guard = none) (s x : Operand)
    (ho : o.op = .call { callee := .builtin .append, args := #[s, x], argTypes := #[st, st] })
    (base : Nat) (v : Value) (n : Nat) (xs : List Value) (hs : a.eval s = v) (hown : w.ownsRow base e 1 v n xs) (A : Option Addr) (m c : Nat) (ys : List Value) (hx : a.eval x = .slice A m c) (hy1 : ∀ u ∈ ys, u.oneCell' = true) (hm : ys.length = m) (hA : At w A ys) (hnil : A = none → c = 0)
    (h63 : n + m ≤ maxLen) (hbytes : (n + m) * B ≤ 140737488355328) (hbase : base ≤ w.heap.size)
    (h : ∀ a2 cap w', w'.ownsRow base e 1 (.slice a2 (n + m) cap) (n + m) (xs ++ ys) → w.grownBy w' v.ownBlock → ((Value.slice a2 (n + m) cap).ownBlock = v.ownBlock ∨ (Value.slice a2 (n + m) cap).ownBlock = some w.heap.size) → wpList Tryz.prog ops Q rest (a.put o.dst (.slice a2 (n + m) cap)) w') : wpList Tryz.prog ops Q (o :: rest) a w :=
  wpList_plain hgd fun _ hK => wp_append_vals E s x ho base v n xs hs hown A m c ys hx hy1 hm hA hnil h63 hbytes hbase fun a2 cap w' h2 h3 h4 => hK _ _ (h a2 cap w' h2 h3 h4)

/-- What grew is new. -/
theorem Fr.own_grown {w0 w w' : World} {base e : Nat} {v : Value} {n : Nat} {xs : List Value} (hf : Fr No w0 w) (hown : w.ownsRow base e 1 v n xs) (hb : w0.heap.size ≤ base) (hg : w.grownBy w' v.ownBlock) : Fr No w0 w' :=
  hf.ofNew (Fr.grown (S := fun k => base ≤ k) hg (fun k hk => (hown.lt k hk).1)) fun k hk => .inr (by omega)
end Go.Proofs.YtnadendhboiliaaGreat
namespace Go.Proofs.YtnadendhboiliaaGreat
open Go.ChangeShapes Go.WideShapes Go.ChangeAt Go.RowKit
set_option linter.unusedVariables false

end Go.Proofs.YtnadendhboiliaaGreat
namespace Go.Proofs.YtnadendhboiliaaGreat
open Go.ChangeShapes Go.WideShapes Go.ChangeAt Go.RowKit
set_option linter.unusedVariables false

end Go.Proofs.YtnadendhboiliaaGreat
namespace Go.Proofs.YtnadendhboiliaaGreat
open Go.ChangeShapes Go.WideShapes Go.ChangeAt Go.RowKit
set_option linter.unusedVariables false

/-- The order of lists of numbers. -/
def cmpN : List Nat → List Nat → Int
  | [], [] => 0
  | [], _ :: _ => -1
  | _ :: _, [] => 1
  | a :: l, b :: m => if a < b then -1 else if b < a then 1 else cmpN l m

/-- What Compare gives. -/
def cmpA (b c : Bool) (xs ys : List Nat) : Int := if b = c then cmpN xs ys else if c then -1 else 1

end Go.Proofs.YtnadendhboiliaaGreat
