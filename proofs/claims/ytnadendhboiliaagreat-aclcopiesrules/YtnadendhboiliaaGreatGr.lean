/-
  CONTRACTS of groupsOf, of longestZeros and of the reference's Group, over this seat's translation: what each call returns.
  Conditions: the argument is an address; eight groups.
  CONTRACTS of longestZeros, over this seat's translation: what the call returns.
  Conditions: eight groups.
  CONTRACTS of strconv.FormatUint to the base 16, over this seat's translation: what each call returns.
  Conditions: the number is below 65536; the package variables are as Glob says.
  append over rows whose elements are one cell each, as laws for the walk.
  Conditions: as each theorem says.
  CONTRACTS of slices.Grow of nil and slices.Concat of two slices of groups, over this seat's translation: what each call returns.
  Conditions: the slices lie in memory.
  CONTRACTS of Unmap and of the reference's Unmap and Valid, over this seat's translation: what each call returns.
  Conditions: the argument is an address.
  CONTRACTS of Compare, of bytes.Compare and of the reference's Compare, over this seat's translation: what each call returns.
  Conditions: the arguments are addresses.
-/
import Derived.Test.YtnadendhboiliaaGreatA
import Derived.Laws.BytesArg
import Derived.Laws.BitsLemmas
import Derived.Deep.RegionHeld3
import Derived.Lib.BytesEntry
import Derived.Lib.Bytealg
namespace Go.Proofs.YtnadendhboiliaaGreat
open Go.ChangeShapes Go.WideShapes Go.ChangeAt Go.RowKit
set_option linter.unusedVariables false

/-- Group i of an address. -/
def grp (xs : List Nat) (i : Nat) : Nat := xs.getD (2 * i) 0 * 256 + xs.getD (2 * i + 1) 0
/-- The eight groups. -/
def grps (xs : List Nat) : List Nat := [grp xs 0, grp xs 1, grp xs 2, grp xs 3, grp xs 4, grp xs 5, grp xs 6, grp xs 7]

theorem grps_get (xs : List Nat) {i : Nat} (hi : i < 8) : (grps xs)[i]? = some (grp xs i) := by
  have : i = 0 ∨ i = 1 ∨ i = 2 ∨ i = 3 ∨ i = 4 ∨ i = 5 ∨ i = 6 ∨ i = 7 := by omega
  rcases this with rfl | rfl | rfl | rfl | rfl | rfl | rfl | rfl <;> rfl

theorem get_or {xs : List Nat} (hx : Bytes xs) (i : Nat) (hi : i < 16) : ∃ x, xs[i]? = some x ∧ xs.getD i 0 = x ∧ x < 256 := by
  have h : i < xs.length := by rw [hx.1]; exact hi
  exact ⟨xs[i], List.getElem?_eq_getElem h, by simp [List.getD, List.getElem?_eq_getElem h], hx.2 _ (List.getElem_mem h)⟩

theorem wraps_i64_63 (n : Int) (h₀ : 0 ≤ n) (h₁ : n < 2 ^ 63) : IntKind.i64.wrap n = n := by simp [IntKind.wrap, IntKind.bits, IntKind.signed]; omega
theorem or_int {a b : Nat} (ha : a < 256) (hb : b < 256) : bits .or .i64 ((a : Int) * 256) (b : Int) = ((a * 256 + b : Nat) : Int) := by
  have h := (bits_nat .i64 63 (by decide) wraps_i64_63 (a * 256) b (by omega) (by omega)).2
  have e : a * 256 ||| b = a * 256 + b := by
    have := Nat.two_pow_add_eq_or_of_lt (i := 8) (by omega : b < 2 ^ 8) a
    rw [show (2 : Nat) ^ 8 = 256 from rfl, Nat.mul_comm] at this
    rw [← this]
  rw [e] at h
  rw [← h]
  simp
theorem or_group' {a b : Nat} (ha : a < 256) (hb : b < 256) : bits .or .u16 ((a : Int) * 256) (b : Int) = ((a * 256 + b : Nat) : Int) := by
  rw [← or_group ha hb]; simp

theorem grps_lt {xs : List Nat} (hx : Bytes xs) : ∀ g ∈ grps xs, g < 65536 := by
  have h : ∀ i, i < 8 → grp xs i < 65536 := by
    intro i hi
    obtain ⟨x, -, e1, h1⟩ := get_or hx (2 * i) (by omega)
    obtain ⟨y, -, e2, h2⟩ := get_or hx (2 * i + 1) (by omega)
    rw [grp, e1, e2]
    omega
  intro g hg
  simp only [grps, List.mem_cons, List.not_mem_nil, or_false] at hg
  rcases hg with rfl | rfl | rfl | rfl | rfl | rfl | rfl | rfl <;> exact h _ (by omega)

/-- The groups when the first i have been written. -/
def gpart (xs : List Nat) (i : Nat) : List Nat := (grps xs).take i ++ List.replicate (8 - i) 0
theorem gpart_length (xs : List Nat) {i : Nat} (hi : i ≤ 8) : (gpart xs i).length = 8 := by
  rw [gpart, List.length_append, List.length_take, List.length_replicate, show (grps xs).length = 8 from rfl]; omega
theorem gpart_step (xs : List Nat) {i : Nat} (hi : i < 8) : (gpart xs i).set i (grp xs i) = gpart xs (i + 1) := by
  have : i = 0 ∨ i = 1 ∨ i = 2 ∨ i = 3 ∨ i = 4 ∨ i = 5 ∨ i = 6 ∨ i = 7 := by omega
  rcases this with rfl | rfl | rfl | rfl | rfl | rfl | rfl | rfl <;> rfl
theorem nums_set {w : World} {m i x : Nat} {k : IntKind} {L : List Nat} {t : TypeId} (h : w.heap[m]? = some (.cells (nums k L).toArray t (0, 0))) : (w.setCell ⟨m, i, none⟩ (.int k x)).heap[m]? = some (.cells (nums k (L.set i x)).toArray t (0, 0)) := by
  rw [heap_setCell_same w m i _ _ _ h]
  congr 2
  apply Array.ext'
  simp [nums, List.map_set]

end Go.Proofs.YtnadendhboiliaaGreat
namespace Go.Proofs.YtnadendhboiliaaGreat
open Go.ChangeShapes Go.WideShapes Go.ChangeAt Go.RowKit
set_option linter.unusedVariables false

/-- The scan for the longest run of zeros: the groups left, the place, the best start and length, the run at hand. -/
def scanZ : List Nat → Nat → Nat → Nat → Nat → Nat × Nat
  | [], _, s, l, _ => (s, l)
  | g :: gs, i, s, l, r => if g ≠ 0 then scanZ gs (i + 1) s l 0 else if l < r + 1 then scanZ gs (i + 1) (i - r) (r + 1) (r + 1) else scanZ gs (i + 1) s l (r + 1)

theorem scanZ_step {gs : List Nat} {i g : Nat} (h : gs[i]? = some g) (s l r : Nat) : scanZ (gs.drop i) i s l r = if g ≠ 0 then scanZ (gs.drop (i + 1)) (i + 1) s l 0 else if l < r + 1 then scanZ (gs.drop (i + 1)) (i + 1) (i - r) (r + 1) (r + 1) else scanZ (gs.drop (i + 1)) (i + 1) s l (r + 1) := by
  obtain ⟨h1, e1⟩ := List.getElem?_eq_some_iff.1 h
  rw [List.drop_eq_getElem_cons h1, e1]
  rfl

end Go.Proofs.YtnadendhboiliaaGreat
namespace Go.Proofs.YtnadendhboiliaaGreat
open Go.ChangeShapes Go.WideShapes Go.ChangeAt Go.RowKit
set_option linter.unusedVariables false

/-- A hexadecimal digit. -/
def hexD (d : Nat) : Nat := if d < 10 then 48 + d else 87 + d
/-- A number's hexadecimal digits. -/
def hexN (n : Nat) : List Nat := if h : n < 16 then [hexD n] else hexN (n / 16) ++ [hexD (n % 16)]
termination_by n
decreasing_by omega

/-- Numbers as a string. -/
def str (xs : List Nat) : ByteArray := ⟨(xs.map UInt8.ofNat).toArray⟩

theorem hexN_small {n : Nat} (h : n < 16) : hexN n = [hexD n] := by rw [hexN, dif_pos h]
theorem hexN_big {n : Nat} (h : 16 ≤ n) : hexN n = hexN (n / 16) ++ [hexD (n % 16)] := by rw [hexN, dif_neg (by omega)]
theorem hexD_lt {n : Nat} (h : n < 16) : hexD n < 256 := by unfold hexD; split <;> omega

/-- The row of digits while they are written: the last ones are there. -/
def Tail (L D : List Nat) (i : Nat) : Prop := L.length = 65 ∧ L.drop i = D

theorem Tail.set {L D : List Nat} {i d : Nat} (h : Tail L D (i + 1)) (hi : i < 65) : Tail (L.set i d) (d :: D) i := by
  refine ⟨by rw [List.length_set]; exact h.1, ?_⟩
  have hl : i < (L.set i d).length := by rw [List.length_set, h.1]; exact hi
  rw [List.drop_eq_getElem_cons hl, List.getElem_set_self, List.drop_set_of_lt (by omega), h.2]

theorem and15 {x : Nat} (h : x < 65536) : bits .and .u64 (x : Int) 15 = ((x % 16 : Nat) : Int) := by
  have h1 := bits_mask .u64 64 (by decide) (fun n h0 h1 => by rw [show IntKind.u64.wrap n = n % 18446744073709551616 by simp [IntKind.wrap, IntKind.bits, IntKind.signed]]; omega) 4 (by decide) (x : Int) (by omega) (by omega)
  have e : ((2 : Int) ^ 4 - 1) = 15 := by decide
  rw [e] at h1
  rw [h1]
  omega

/-- The digits that the program looks up. -/
def digs : ByteArray := ⟨#[48, 49, 50, 51, 52, 53, 54, 55, 56, 57, 97, 98, 99, 100, 101, 102, 103, 104, 105, 106, 107, 108, 109, 110, 111, 112, 113, 114, 115, 116, 117, 118, 119, 120, 121, 122]⟩

theorem digs_get {d : Nat} (h : d < 16) (h' : d < digs.size) : digs[d].toNat = hexD d := by
  have : d = 0 ∨ d = 1 ∨ d = 2 ∨ d = 3 ∨ d = 4 ∨ d = 5 ∨ d = 6 ∨ d = 7 ∨ d = 8 ∨ d = 9 ∨ d = 10 ∨ d = 11 ∨ d = 12 ∨ d = 13 ∨ d = 14 ∨ d = 15 := by omega
  rcases this with rfl | rfl | rfl | rfl | rfl | rfl | rfl | rfl | rfl | rfl | rfl | rfl | rfl | rfl | rfl | rfl <;> rfl

theorem strOfNums_str (D : List Nat) : strOfNums (D.map fun (x : Nat) => (x : Int)) = str D := by
  rw [strOfNums, List.map_map]; rfl

end Go.Proofs.YtnadendhboiliaaGreat
namespace Go.Proofs.YtnadendhboiliaaGreat
open Go.ChangeShapes Go.WideShapes Go.ChangeAt Go.RowKit
set_option linter.unusedVariables false

/-- A slice type whose elements are one cell each. -/
structure El (st e : TypeId) (B : Nat) : Prop where
  und : Tryz.prog.underlying st = some (.slice e)
  info : ∃ z, (Tryz.prog.info? e).map (fun i => (i.zero, i.size, i.bytes)) = some (some z, 1, B) ∧ z.cells.size = 1

theorem el16 : El 105 109 2 := ⟨Tryz.underlying105, ⟨.int .u16 0, by kernel_rfl, rfl⟩⟩
theorem elS : El 82 9 16 := ⟨Tryz.underlying82, ⟨.string ⟨#[]⟩, by kernel_rfl, rfl⟩⟩

theorem run_append_vals {w : World} {st e : TypeId} {B : Nat} (E : El st e B) (ty : TypeId) (base : Nat) (v : Value) (n : Nat) (xs : List Value) (hown : w.ownsRow base e 1 v n xs) (A : Option Addr) (m c : Nat) (ys : List Value) (hy1 : ∀ u ∈ ys, u.oneCell' = true) (hm : ys.length = m) (hA : At w A ys) (hnil : A = none → c = 0)
    (h63 : n + m ≤ maxLen) (hbytes : (n + m) * B ≤ 140737488355328) (hbase : base ≤ w.heap.size) :
    ∃ a cap w', (Builtin.append_ #[st, st] ty #[v, .slice A m c]).run Tryz.prog w = .ok (.slice a (n + m) cap) w' ∧ w'.ownsRow base e 1 (.slice a (n + m) cap) (n + m) (xs ++ ys) ∧ w.grownBy w' v.ownBlock ∧ ((Value.slice a (n + m) cap).ownBlock = v.ownBlock ∨ (Value.slice a (n + m) cap).ownBlock = some w.heap.size) := by
  obtain ⟨z, hinfo, hzl⟩ := E.info
  obtain ⟨i0, hi, hz0, hz1, hz2⟩ := info_parts hinfo
  cases A with
  | none =>
    obtain rfl : ys = [] := by
      cases ys with
      | nil => rfl
      | cons y ys => obtain ⟨b, off, h, _⟩ := hA 0 y rfl; cases h
    obtain rfl : m = 0 := by simpa using hm.symm
    obtain rfl := hnil rfl
    obtain ⟨a, cap, rfl, _⟩ := row_any hown
    exact ⟨a, cap, w, run_append_owned_none w base st ty e i0 1 E.und hi _ n _ hown, by simpa using hown, World.grownBy.refl w _, .inl rfl⟩
  | some ad =>
    obtain ⟨v', w', hr, h2, h3, _, h5⟩ := run_append_own_at (P := Tryz.prog) w base st ty e i0 _ 1 B E.und hi hz0 hz1 hz2 hzl (by decide) v n _ hown ad m c ys (by omega) hA.src hy1 h63 hbytes hbase
    obtain ⟨a, cap, rfl, _⟩ := row_any h2
    exact ⟨a, cap, w', hr, h2, h3, h5⟩

theorem wp_append_vals {w : World} {st e : TypeId} {B : Nat} (E : El st e B) {o : Oper} {a : Act} {K : Act → World → Prop} {Q : Exit → Act → World → Prop} (s x : Operand)
    (ho : o.op = .call { callee := .builtin .append, args := #[s, x], argTypes := #[st, st] })
    (base : Nat) (v : Value) (n : Nat) (xs : List Value) (hs : a.eval s = v) (hown : w.ownsRow base e 1 v n xs) (A : Option Addr) (m c : Nat) (ys : List Value) (hx : a.eval x = .slice A m c) (hy1 : ∀ u ∈ ys, u.oneCell' = true) (hm : ys.length = m) (hA : At w A ys) (hnil : A = none → c = 0)
    (h63 : n + m ≤ maxLen) (hbytes : (n + m) * B ≤ 140737488355328) (hbase : base ≤ w.heap.size)
    (h : ∀ a2 cap w', w'.ownsRow base e 1 (.slice a2 (n + m) cap) (n + m) (xs ++ ys) → w.grownBy w' v.ownBlock → ((Value.slice a2 (n + m) cap).ownBlock = v.ownBlock ∨ (Value.slice a2 (n + m) cap).ownBlock = some w.heap.size) → K (a.put o.dst (.slice a2 (n + m) cap)) w') : o.wp Tryz.prog a w K Q := by
  obtain ⟨a2, cap, w', hr, h2, h3, h4⟩ := run_append_vals E o.type base v n xs hown A m c ys hy1 hm hA hnil h63 hbytes hbase
  exact Lib.wp_append_run w s x st st ho v _ hs hx _ _ hr (h a2 cap w' h2 h3 h4)

theorem wpList_append_vals {w : World} {st e : TypeId} {B : Nat} (E : El st e B) {ops : Array Oper} {rest : List Oper} {o : Oper} {a : Act} {Q : Exit → Act → World → Prop} (hgd : o.guard = none) (s x : Operand)
    (ho : o.op = .call { callee := .builtin .append, args := #[s, x], argTypes := #[st, st] })
    (base : Nat) (v : Value) (n : Nat) (xs : List Value) (hs : a.eval s = v) (hown : w.ownsRow base e 1 v n xs) (A : Option Addr) (m c : Nat) (ys : List Value) (hx : a.eval x = .slice A m c) (hy1 : ∀ u ∈ ys, u.oneCell' = true) (hm : ys.length = m) (hA : At w A ys) (hnil : A = none → c = 0)
    (h63 : n + m ≤ maxLen) (hbytes : (n + m) * B ≤ 140737488355328) (hbase : base ≤ w.heap.size)
    (h : ∀ a2 cap w', w'.ownsRow base e 1 (.slice a2 (n + m) cap) (n + m) (xs ++ ys) → w.grownBy w' v.ownBlock → ((Value.slice a2 (n + m) cap).ownBlock = v.ownBlock ∨ (Value.slice a2 (n + m) cap).ownBlock = some w.heap.size) → wpList Tryz.prog ops Q rest (a.put o.dst (.slice a2 (n + m) cap)) w') : wpList Tryz.prog ops Q (o :: rest) a w :=
  wpList_plain hgd fun _ hK => wp_append_vals E s x ho base v n xs hs hown A m c ys hx hy1 hm hA hnil h63 hbytes hbase fun a2 cap w' h2 h3 h4 => hK _ _ (h a2 cap w' h2 h3 h4)

theorem step_append_vals {w : World} {st e : TypeId} {B : Nat} (E : El st e B) {ops : Array Oper} {o : Oper} {a : Act} {K : Act → World → Prop} {Q : Exit → Act → World → Prop} {F : Prop} (hgd : o.guard = none) (s x : Operand)
    (ho : o.op = .call { callee := .builtin .append, args := #[s, x], argTypes := #[st, st] })
    (base : Nat) (v : Value) (n : Nat) (xs : List Value) (hs : a.eval s = v) (hown : w.ownsRow base e 1 v n xs) (A : Option Addr) (m c : Nat) (ys : List Value) (hx : a.eval x = .slice A m c) (hy1 : ∀ u ∈ ys, u.oneCell' = true) (hm : ys.length = m) (hA : At w A ys) (hnil : A = none → c = 0)
    (h63 : n + m ≤ maxLen) (hbytes : (n + m) * B ≤ 140737488355328) (hbase : base ≤ w.heap.size)
    (h : ∀ a2 cap w', w'.ownsRow base e 1 (.slice a2 (n + m) cap) (n + m) (xs ++ ys) → w.grownBy w' v.ownBlock → ((Value.slice a2 (n + m) cap).ownBlock = v.ownBlock ∨ (Value.slice a2 (n + m) cap).ownBlock = some w.heap.size) → K (a.put o.dst (.slice a2 (n + m) cap)) w') :
    if Region.wanted o (yielded ops a.tmps) = true then Oper.wp Tryz.prog o a w K Q else F := by
  have hw : Region.wanted o (yielded ops a.tmps) = true := by simp [Region.wanted, hgd]
  rw [if_pos hw]
  exact wp_append_vals E s x ho base v n xs hs hown A m c ys hx hy1 hm hA hnil h63 hbytes hbase h

/-- What grew is new. -/
theorem Fr.own_grown {w0 w w' : World} {base e : Nat} {v : Value} {n : Nat} {xs : List Value} (hf : Fr No w0 w) (hown : w.ownsRow base e 1 v n xs) (hb : w0.heap.size ≤ base) (hg : w.grownBy w' v.ownBlock) : Fr No w0 w' :=
  hf.ofNew (Fr.grown (S := fun k => base ≤ k) hg (fun k hk => (hown.lt k hk).1)) fun k hk => .inr (by omega)
end Go.Proofs.YtnadendhboiliaaGreat
namespace Go.Proofs.YtnadendhboiliaaGreat
open Go.ChangeShapes Go.WideShapes Go.ChangeAt Go.RowKit
set_option linter.unusedVariables false

theorem two_heads {w w' : World} {b : Nat} {u v : Value} {t : TypeId} (h : w.heap[b]? = some (.cells #[u, v] t (0, 0))) (hf : Fr No w w') : w'.cell? ⟨b, 0, none⟩ = some u ∧ w'.cell? ⟨b, 1, none⟩ = some v := by
  have h1 := (hf.block b (Array.getElem?_eq_some_iff.1 h).1 (fun h => h)).trans h
  refine ⟨?_, ?_⟩ <;> rw [cell_of_row _ b _ _ _ _ h1] <;> rfl

end Go.Proofs.YtnadendhboiliaaGreat
namespace Go.Proofs.YtnadendhboiliaaGreat
open Go.ChangeShapes Go.WideShapes Go.ChangeAt Go.RowKit
set_option linter.unusedVariables false

/-- The first twelve bytes of a mapped address. -/
def mapped : List Nat := [0, 0, 0, 0, 0, 0, 0, 0, 0, 0, 255, 255]
/-- Whether an address is a mapped one. -/
def isMapped (b : Bool) (xs : List Nat) : Bool := b && decide (xs.take 12 = mapped)
/-- What Unmap gives. -/
def unmapB (b : Bool) (xs : List Nat) : Bool := if isMapped b xs then false else b
def unmapX (b : Bool) (xs : List Nat) : List Nat := if isMapped b xs then v4Of (xs.getD 12 0) (xs.getD 13 0) (xs.getD 14 0) (xs.getD 15 0) else xs

theorem unmap_bytes {b : Bool} {xs : List Nat} (hx : Bytes xs) : Bytes (unmapX b xs) := by
  unfold unmapX
  split
  · have h : ∀ i, xs.getD i 0 < 256 := fun i => by
      rw [List.getD]
      cases hi : xs[i]? with
      | none => simp
      | some x => exact hx.2 x (List.mem_of_getElem? hi)
    exact v4_bytes (h _) (h _) (h _) (h _)
  · exact hx

theorem getD_get {xs : List Nat} {i : Nat} (h : i < xs.length) : xs[i]? = some (xs.getD i 0) := by
  rw [List.getD, List.getElem?_eq_getElem h]; rfl

theorem prefix_mapped {xs : List Nat} (hx : Bytes xs) : Lib.hasPrefix (Lib.bytesOf (xs.map fun (x : Nat) => (x : Int))) (Lib.bytesOf (mapped.map fun (x : Nat) => (x : Int))) = decide (xs.take 12 = mapped) := by
  have e : ∀ zs : List Nat, Lib.bytesOf (zs.map fun (x : Nat) => (x : Int)) = zs.map UInt8.ofNat := by
    intro zs
    rw [Lib.bytesOf, List.map_map]
    rfl
  rw [e, e, Lib.hasPrefix]
  obtain ⟨hl, hb⟩ := hx
  have key : ∀ a b : Nat, a < 256 → b < 256 → ((UInt8.ofNat a == UInt8.ofNat b) = decide (b = a)) := by
    intro a b ha hb
    rw [Bool.eq_iff_iff]
    simp only [beq_iff_eq, decide_eq_true_eq, ← UInt8.toNat_inj]
    simp [Nat.mod_eq_of_lt ha, Nat.mod_eq_of_lt hb]
    omega
  match xs, hl with
  | [x0, x1, x2, x3, x4, x5, x6, x7, x8, x9, x10, x11, x12, x13, x14, x15], _ =>
    have k := fun x (hx : x ∈ [x0, x1, x2, x3, x4, x5, x6, x7, x8, x9, x10, x11, x12, x13, x14, x15]) => hb x hx
    simp only [mapped, List.map_cons, List.map_nil, List.isPrefixOf]
    rw [key 0 x0 (by omega) (k _ (by simp)), key 0 x1 (by omega) (k _ (by simp)), key 0 x2 (by omega) (k _ (by simp)), key 0 x3 (by omega) (k _ (by simp)), key 0 x4 (by omega) (k _ (by simp)), key 0 x5 (by omega) (k _ (by simp)), key 0 x6 (by omega) (k _ (by simp)), key 0 x7 (by omega) (k _ (by simp)), key 0 x8 (by omega) (k _ (by simp)), key 0 x9 (by omega) (k _ (by simp)), key 255 x10 (by omega) (k _ (by simp)), key 255 x11 (by omega) (k _ (by simp))]
    rw [Bool.eq_iff_iff]
    simp

theorem zero24u : ∀ w, (zeroValue 25).run Tryz.prog w = .ok (.agg (adr false [0, 0, 0, 0, 0, 0, 0, 0, 0, 0, 0, 0, 0, 0, 0, 0]).toArray) w := by
  intro w
  kernel_rfl

end Go.Proofs.YtnadendhboiliaaGreat
namespace Go.Proofs.YtnadendhboiliaaGreat
open Go.ChangeShapes Go.WideShapes Go.ChangeAt Go.RowKit
set_option linter.unusedVariables false

/-- The order of lists of numbers. -/
def cmpN : List Nat → List Nat → Int
  | [], [] => 0
  | [], _ :: _ => -1
  | _ :: _, [] => 1
  | a :: l, b :: m => if a < b then -1 else if b < a then 1 else cmpN l m

theorem cmpN_bytes : ∀ (xs ys : List Nat), (∀ x ∈ xs, x < 256) → (∀ x ∈ ys, x < 256) → Lib.compareBytes (xs.map UInt8.ofNat) (ys.map UInt8.ofNat) = cmpN xs ys
  | [], [], _, _ => rfl
  | [], _ :: _, _, _ => rfl
  | _ :: _, [], _, _ => rfl
  | a :: l, b :: m, hx, hy => by
    have ih := cmpN_bytes l m (fun x h => hx x (by simp [h])) (fun x h => hy x (by simp [h]))
    have ha := hx a (by simp)
    have hb := hy b (by simp)
    have e1 : UInt8.ofNat a < UInt8.ofNat b ↔ a < b := by rw [UInt8.lt_iff_toNat_lt]; simp [Nat.mod_eq_of_lt ha, Nat.mod_eq_of_lt hb]
    have e2 : UInt8.ofNat b < UInt8.ofNat a ↔ b < a := by rw [UInt8.lt_iff_toNat_lt]; simp [Nat.mod_eq_of_lt ha, Nat.mod_eq_of_lt hb]
    simp only [List.map_cons, Lib.compareBytes, cmpN, e1, e2, ih]

/-- What Compare gives. -/
def cmpA (b c : Bool) (xs ys : List Nat) : Int := if b = c then cmpN xs ys else if c then -1 else 1

theorem nums_bytes {xs : List Nat} {w : World} {ad : Addr} {n : Nat} (h : At w (some ad) (nums .u8 xs)) (hn : xs.length = n) (hb : ∀ x ∈ xs, x < 256) (P : Program) : (Extern.Bytes.loadBytes ad n .empty).run P w = .ok ⟨(xs.map UInt8.ofNat).toArray⟩ w := by
  subst hn
  have h1 := Lib.run_loadBytesX (P := P) w (xs.map fun (x : Nat) => (x : Int)) ad .empty (fun j x hj => by
    rw [List.getElem?_map] at hj
    obtain ⟨y, hy, rfl⟩ := Option.map_eq_some_iff.1 hj
    exact h.src j _ (nums_get hy))
  rw [List.length_map] at h1
  rw [h1]
  congr 2
  simp [Lib.bytesOf, ByteArray.empty, ByteArray.emptyWithCapacity]
  rfl

theorem adr_at {w : World} {bk : Nat} {b : Bool} {xs : List Nat} {t : TypeId} {fr : Nat × Nat} (h : w.heap[bk]? = some (.cells (adr b xs).toArray t fr)) : At w (some ⟨bk, 1, none⟩) (nums .u8 xs) := by
  have h1 := (At.block h).drop 1
  simpa [adr] using h1

theorem cmpN_step {i : Nat} {xs ys : List Nat} {x y : Nat} (hx : xs[i]? = some x) (hy : ys[i]? = some y) : cmpN (xs.drop i) (ys.drop i) = if x < y then -1 else if y < x then 1 else cmpN (xs.drop (i + 1)) (ys.drop (i + 1)) := by
  obtain ⟨h1, e1⟩ := List.getElem?_eq_some_iff.1 hx
  obtain ⟨h2, e2⟩ := List.getElem?_eq_some_iff.1 hy
  rw [List.drop_eq_getElem_cons h1, List.drop_eq_getElem_cons h2, e1, e2]
  rfl

end Go.Proofs.YtnadendhboiliaaGreat
