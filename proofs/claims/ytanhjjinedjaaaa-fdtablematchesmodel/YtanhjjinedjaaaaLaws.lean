/-
  copy, clear and append over rows of structs whose cells are integers, as laws for the walk.
  Conditions: as each theorem says.
-/
import Derived.Test.YtanhjjinedjaaaaMem
import Derived.Deep.DeepAppendRoom
namespace Go.Proofs.Ytanhjjinedjaaaa
open Go.ChangeShapes Go.WideShapes Go.ChangeAt Go.RowKit
set_option linter.unusedVariables false

/-- A slice type whose elements are structs of K integers. -/
structure Elt (T e : TypeId) (K by_ : Nat) : Prop where
  und : Try.prog.underlying T = some (.slice e)
  inf : ∃ i z, Try.prog.info? e = some i ∧ i.zero = some z ∧ i.size = K ∧ i.bytes = by_ ∧ z.cells = (ints (List.replicate K 0)).toArray
  pos : 0 < K

theorem elt57 : Elt 57 61 4 32 := by
  obtain ⟨i, hi, hz, hs, hb⟩ := info_parts info61
  exact ⟨Try.underlying57, ⟨i, _, hi, hz, hs, hb, rfl⟩, by omega⟩
theorem elt34 : Elt 34 47 4 32 := by
  obtain ⟨i, hi, hz, hs, hb⟩ := info_parts info47
  exact ⟨Try.underlying34, ⟨i, _, hi, hz, hs, hb, rfl⟩, by omega⟩
theorem elt28 : Elt 28 38 2 16 := by
  obtain ⟨i, hi, hz, hs, hb⟩ := info_parts info38
  exact ⟨Try.underlying28, ⟨i, _, hi, hz, hs, hb, rfl⟩, by omega⟩

theorem zeroCells_ints (K n : Nat) (hK : 0 < K) : Builtin.zeroCells (ints (List.replicate K 0)).toArray n = (ints (List.replicate (n * K) 0)).toArray := by
  apply Array.ext
  · simp [Builtin.zeroCells, ints]
  · intro i h1 h2
    have hm : i % K < K := Nat.mod_lt _ hK
    simp [Builtin.zeroCells, ints, hm]

theorem run_copy_wide {w : World} {T e : TypeId} {K by_ : Nat} (E : Elt T e K by_) (ty : TypeId) (g off dLen dCap : Nat) (ad : Addr) (sLen sCap : Nat) (cur : List Value) (t : TypeId) (hg : w.heap[g]? = some (.cells cur.toArray t (0, 0))) (cs : List Value) (hn : cs.length = Nat.min sLen dLen * K)
    (hsrc : ∀ j v, cs[j]? = some v → w.cell? (ad.add j) = some v) (hfit : off + cs.length ≤ cur.length) (h1 : ∀ v ∈ cs, v.oneCell' = true) :
    (Builtin.copy_ #[T, T] ty #[.slice (some ⟨g, off, none⟩) dLen dCap, .slice (some ad) sLen sCap]).run Try.prog w = .ok (goInt (Nat.min sLen dLen)) (w.setRow g (splice cur off cs).toArray) := by
  obtain ⟨i, z, hi, _, hsz, _, _⟩ := E.inf
  have hl := run_loadCells_list (P := Try.prog) w ad cs hsrc
  have hst := run_storeCells_at Try.prog g off t cs 0 cur.toArray w hg (by simpa using hfit) h1
  simp [Builtin.copy_, run_underlying E.und, Builtin.lenOf, Builtin.firstCells, sizeOf, typeInfo, hi, hsz, ← hn, hl, hst, splice]

theorem wp_copy_wide {w : World} {T e : TypeId} {K by_ : Nat} (E : Elt T e K by_) {o : Oper} {a : Act} {R : Act → World → Prop} {Q : Exit → Act → World → Prop} (d s : Operand)
    (ho : o.op = .call { callee := .builtin .copy, args := #[d, s], argTypes := #[T, T] })
    (g off dLen dCap : Nat) (ad : Addr) (sLen sCap : Nat) (hd : a.eval d = .slice (some ⟨g, off, none⟩) dLen dCap) (hs : a.eval s = .slice (some ad) sLen sCap)
    (cur : List Value) (t : TypeId) (hg : w.heap[g]? = some (.cells cur.toArray t (0, 0))) (cs : List Value) (hn : cs.length = Nat.min sLen dLen * K)
    (hsrc : ∀ j v, cs[j]? = some v → w.cell? (ad.add j) = some v) (hfit : off + cs.length ≤ cur.length) (h1 : ∀ v ∈ cs, v.oneCell' = true)
    (h : ∀ w', w'.heap[g]? = some (.cells (splice cur off cs).toArray t (0, 0)) → Fr (fun k => k = g) w w' → R (a.put o.dst (goInt (Nat.min sLen dLen))) w') : o.wp Try.prog a w R Q := by
  have hrun := run_copy_wide E o.type g off dLen dCap ad sLen sCap cur t hg cs hn hsrc hfit h1
  have hk := h _ (setRow_heap w g _ (splice cur off cs).toArray t _ hg) (Fr.setRow _ _ _ _ rfl)
  unfold Oper.wp execOp
  simp only [ho, resolve, invoke, builtin, Sem.run_bind, Sem.run_pure, Result.andThen_ok, List.map_toArray, List.map_cons, List.map_nil, hd, hs, hrun]
  exact hk

theorem wpList_copy_wide {w : World} {T e : TypeId} {K by_ : Nat} (E : Elt T e K by_) {ops : Array Oper} {rest : List Oper} {o : Oper} {a : Act} {Q : Exit → Act → World → Prop} (hgd : o.guard = none) (d s : Operand)
    (ho : o.op = .call { callee := .builtin .copy, args := #[d, s], argTypes := #[T, T] })
    (g off dLen dCap : Nat) (ad : Addr) (sLen sCap : Nat) (hd : a.eval d = .slice (some ⟨g, off, none⟩) dLen dCap) (hs : a.eval s = .slice (some ad) sLen sCap)
    (cur : List Value) (t : TypeId) (hg : w.heap[g]? = some (.cells cur.toArray t (0, 0))) (cs : List Value) (hn : cs.length = Nat.min sLen dLen * K)
    (hsrc : ∀ j v, cs[j]? = some v → w.cell? (ad.add j) = some v) (hfit : off + cs.length ≤ cur.length) (h1 : ∀ v ∈ cs, v.oneCell' = true)
    (h : ∀ w', w'.heap[g]? = some (.cells (splice cur off cs).toArray t (0, 0)) → Fr (fun k => k = g) w w' → wpList Try.prog ops Q rest (a.put o.dst (goInt (Nat.min sLen dLen))) w') : wpList Try.prog ops Q (o :: rest) a w :=
  wpList_plain hgd fun _ hK => wp_copy_wide E d s ho g off dLen dCap ad sLen sCap hd hs cur t hg cs hn hsrc hfit h1 fun w' h2 h3 => hK _ _ (h w' h2 h3)

theorem step_copy_wide {w : World} {T e : TypeId} {K by_ : Nat} (E : Elt T e K by_) {ops : Array Oper} {o : Oper} {a : Act} {R : Act → World → Prop} {Q : Exit → Act → World → Prop} {F : Prop} (hgd : o.guard = none) (d s : Operand)
    (ho : o.op = .call { callee := .builtin .copy, args := #[d, s], argTypes := #[T, T] })
    (g off dLen dCap : Nat) (ad : Addr) (sLen sCap : Nat) (hd : a.eval d = .slice (some ⟨g, off, none⟩) dLen dCap) (hs : a.eval s = .slice (some ad) sLen sCap)
    (cur : List Value) (t : TypeId) (hg : w.heap[g]? = some (.cells cur.toArray t (0, 0))) (cs : List Value) (hn : cs.length = Nat.min sLen dLen * K)
    (hsrc : ∀ j v, cs[j]? = some v → w.cell? (ad.add j) = some v) (hfit : off + cs.length ≤ cur.length) (h1 : ∀ v ∈ cs, v.oneCell' = true)
    (h : ∀ w', w'.heap[g]? = some (.cells (splice cur off cs).toArray t (0, 0)) → Fr (fun k => k = g) w w' → R (a.put o.dst (goInt (Nat.min sLen dLen))) w') :
    if Region.wanted o (yielded ops a.tmps) = true then Oper.wp Try.prog o a w R Q else F := by
  have hw : Region.wanted o (yielded ops a.tmps) = true := by simp [Region.wanted, hgd]
  rw [if_pos hw]
  exact wp_copy_wide E d s ho g off dLen dCap ad sLen sCap hd hs cur t hg cs hn hsrc hfit h1 h

/-! ### clear -/

theorem run_clear_wide {w : World} {T e : TypeId} {K by_ : Nat} (E : Elt T e K by_) (ty : TypeId) (g off n c : Nat) (cur : List Value) (t : TypeId) (hn : 0 < n) (hg : w.heap[g]? = some (.cells cur.toArray t (0, 0))) (hfit : off + n * K ≤ cur.length) :
    (Builtin.clear_ #[T] ty #[.slice (some ⟨g, off, none⟩) n c]).run Try.prog w = .ok (.tuple #[]) (w.setRow g (splice cur off (ints (List.replicate (n * K) 0))).toArray) := by
  obtain ⟨i, z, hi, hz, hsz, _, hzc⟩ := E.inf
  have hv : ∀ w, (zeroValue e).run Try.prog w = .ok z w := fun w => by simp [zeroValue, typeInfo, hi, hz]
  have hst := run_storeCells_at Try.prog g off t (ints (List.replicate (n * K) 0)) 0 cur.toArray w hg (by simp [ints_length]; omega) (ints_one _)
  simp only [Nat.add_zero] at hst
  obtain ⟨m, rfl⟩ : ∃ m, n = m + 1 := ⟨n - 1, by omega⟩
  simp [Builtin.clear_, run_underlying E.und, hv, hzc, zeroCells_ints K _ E.pos, hst, splice]

theorem wpList_clear_wide {w : World} {T e : TypeId} {K by_ : Nat} (E : Elt T e K by_) {ops : Array Oper} {rest : List Oper} {o : Oper} {a : Act} {Q : Exit → Act → World → Prop} (hgd : o.guard = none) (d : Operand)
    (ho : o.op = .call { callee := .builtin .clear, args := #[d], argTypes := #[T] })
    (g off n dCap : Nat) (hd : a.eval d = .slice (some ⟨g, off, none⟩) n dCap)
    (cur : List Value) (t : TypeId) (hn : 0 < n) (hg : w.heap[g]? = some (.cells cur.toArray t (0, 0))) (hfit : off + n * K ≤ cur.length)
    (h : ∀ w', w'.heap[g]? = some (.cells (splice cur off (ints (List.replicate (n * K) 0))).toArray t (0, 0)) → Fr (fun k => k = g) w w' → wpList Try.prog ops Q rest (a.put o.dst (.tuple #[])) w') : wpList Try.prog ops Q (o :: rest) a w := by
  refine wpList_plain hgd fun R hK => ?_
  have hrun := run_clear_wide E o.type g off n dCap cur t hn hg hfit
  have hk := hK _ _ (h _ (setRow_heap w g _ (splice cur off (ints (List.replicate (n * K) 0))).toArray t _ hg) (Fr.setRow _ _ _ _ rfl))
  unfold Oper.wp execOp
  simp only [ho, resolve, invoke, builtin, Sem.run_bind, Sem.run_pure, Result.andThen_ok, List.map_toArray, List.map_cons, List.map_nil, hd, hrun]
  exact hk

/-! ### append -/

theorem run_append_wide {w : World} {T e : TypeId} {K by_ : Nat} (E : Elt T e K by_) (hby : by_ ≤ 32) (ty : TypeId) (base : Nat) (v : Value) (n : Nat) (xs : List Int) (hown : w.ownsRow base e K v n (ints xs)) (A : Option Addr) (m c : Nat) (ys : List Int) (hm : ys.length = m * K) (hA : At w A ys) (hnil : A = none → m = 0 ∧ c = 0)
    (hnm : n + m ≤ 100000) (hbase : base ≤ w.heap.size) :
    ∃ a cap w', (Builtin.append_ #[T, T] ty #[v, .slice A m c]).run Try.prog w = .ok (.slice a (n + m) cap) w' ∧ w'.ownsRow base e K (.slice a (n + m) cap) (n + m) (ints (xs ++ ys)) ∧ w.grownBy w' v.ownBlock ∧ ((Value.slice a (n + m) cap).ownBlock = v.ownBlock ∨ (Value.slice a (n + m) cap).ownBlock = some w.heap.size) := by
  obtain ⟨i, z, hi, hz, hsz, hb, hzc⟩ := E.inf
  cases A with
  | none =>
    obtain ⟨rfl, rfl⟩ := hnil rfl
    obtain rfl : ys = [] := List.eq_nil_of_length_eq_zero (by omega)
    obtain ⟨a, cap, rfl, _⟩ := row_any hown
    exact ⟨a, cap, w, run_append_owned_none w base T ty e i K E.und hi _ n _ hown, by simpa using hown, World.grownBy.refl w _, .inl rfl⟩
  | some ad =>
    obtain ⟨v', w', hr, h2, h3, _, h5⟩ := run_append_own_at (P := Try.prog) w base T ty e i z K by_ E.und hi hz hsz hb (by rw [hzc]; simp [ints]) E.pos v n _ hown ad m c (ints ys) (by rw [ints_length, hm]) hA.src (ints_one ys) (by unfold maxLen; omega) (by
      have : (n + m) * by_ ≤ 100000 * 32 := Nat.mul_le_mul hnm hby
      omega) hbase
    obtain ⟨a, cap, rfl, _⟩ := row_any h2
    exact ⟨a, cap, w', hr, by rw [ints_append]; exact h2, h3, h5⟩

theorem wp_append_wide {w : World} {T e : TypeId} {K by_ : Nat} (E : Elt T e K by_) (hby : by_ ≤ 32) {o : Oper} {a : Act} {R : Act → World → Prop} {Q : Exit → Act → World → Prop} (s x : Operand)
    (ho : o.op = .call { callee := .builtin .append, args := #[s, x], argTypes := #[T, T] })
    (base : Nat) (v : Value) (n : Nat) (xs : List Int) (hs : a.eval s = v) (hown : w.ownsRow base e K v n (ints xs)) (A : Option Addr) (m c : Nat) (ys : List Int) (hx : a.eval x = .slice A m c) (hm : ys.length = m * K) (hA : At w A ys) (hnil : A = none → m = 0 ∧ c = 0)
    (hnm : n + m ≤ 100000) (hbase : base ≤ w.heap.size)
    (h : ∀ a2 cap w', w'.ownsRow base e K (.slice a2 (n + m) cap) (n + m) (ints (xs ++ ys)) → w.grownBy w' v.ownBlock → ((Value.slice a2 (n + m) cap).ownBlock = v.ownBlock ∨ (Value.slice a2 (n + m) cap).ownBlock = some w.heap.size) → R (a.put o.dst (.slice a2 (n + m) cap)) w') : o.wp Try.prog a w R Q := by
  obtain ⟨a2, cap, w', hr, h2, h3, h4⟩ := run_append_wide E hby o.type base v n xs hown A m c ys hm hA hnil hnm hbase
  exact Lib.wp_append_run w s x T T ho v _ hs hx _ _ hr (h a2 cap w' h2 h3 h4)

theorem wpList_append_wide {w : World} {T e : TypeId} {K by_ : Nat} (E : Elt T e K by_) (hby : by_ ≤ 32) {ops : Array Oper} {rest : List Oper} {o : Oper} {a : Act} {Q : Exit → Act → World → Prop} (hgd : o.guard = none) (s x : Operand)
    (ho : o.op = .call { callee := .builtin .append, args := #[s, x], argTypes := #[T, T] })
    (base : Nat) (v : Value) (n : Nat) (xs : List Int) (hs : a.eval s = v) (hown : w.ownsRow base e K v n (ints xs)) (A : Option Addr) (m c : Nat) (ys : List Int) (hx : a.eval x = .slice A m c) (hm : ys.length = m * K) (hA : At w A ys) (hnil : A = none → m = 0 ∧ c = 0)
    (hnm : n + m ≤ 100000) (hbase : base ≤ w.heap.size)
    (h : ∀ a2 cap w', w'.ownsRow base e K (.slice a2 (n + m) cap) (n + m) (ints (xs ++ ys)) → w.grownBy w' v.ownBlock → ((Value.slice a2 (n + m) cap).ownBlock = v.ownBlock ∨ (Value.slice a2 (n + m) cap).ownBlock = some w.heap.size) → wpList Try.prog ops Q rest (a.put o.dst (.slice a2 (n + m) cap)) w') : wpList Try.prog ops Q (o :: rest) a w :=
  wpList_plain hgd fun _ hK => wp_append_wide E hby s x ho base v n xs hs hown A m c ys hx hm hA hnil hnm hbase fun a2 cap w' h2 h3 h4 => hK _ _ (h a2 cap w' h2 h3 h4)

theorem step_append_wide {w : World} {T e : TypeId} {K by_ : Nat} (E : Elt T e K by_) (hby : by_ ≤ 32) {ops : Array Oper} {o : Oper} {a : Act} {R : Act → World → Prop} {Q : Exit → Act → World → Prop} {F : Prop} (hgd : o.guard = none) (s x : Operand)
    (ho : o.op = .call { callee := .builtin .append, args := #[s, x], argTypes := #[T, T] })
    (base : Nat) (v : Value) (n : Nat) (xs : List Int) (hs : a.eval s = v) (hown : w.ownsRow base e K v n (ints xs)) (A : Option Addr) (m c : Nat) (ys : List Int) (hx : a.eval x = .slice A m c) (hm : ys.length = m * K) (hA : At w A ys) (hnil : A = none → m = 0 ∧ c = 0)
    (hnm : n + m ≤ 100000) (hbase : base ≤ w.heap.size)
    (h : ∀ a2 cap w', w'.ownsRow base e K (.slice a2 (n + m) cap) (n + m) (ints (xs ++ ys)) → w.grownBy w' v.ownBlock → ((Value.slice a2 (n + m) cap).ownBlock = v.ownBlock ∨ (Value.slice a2 (n + m) cap).ownBlock = some w.heap.size) → R (a.put o.dst (.slice a2 (n + m) cap)) w') :
    if Region.wanted o (yielded ops a.tmps) = true then Oper.wp Try.prog o a w R Q else F := by
  have hw : Region.wanted o (yielded ops a.tmps) = true := by simp [Region.wanted, hgd]
  rw [if_pos hw]
  exact wp_append_wide E hby s x ho base v n xs hs hown A m c ys hx hm hA hnil hnm hbase h

/-- append where there is room, as one step of a region that draws. -/
theorem step_append_spare {w : World} {T e : TypeId} {K by_ : Nat} (E : Elt T e K by_) {ops : Array Oper} {o : Oper} {a : Act} {R : Act → World → Prop} {Q : Exit → Act → World → Prop} {F : Prop} (hgd : o.guard = none) (s x : Operand)
    (ho : o.op = .call { callee := .builtin .append, args := #[s, x], argTypes := #[T, T] })
    (base : Nat) (g n cap : Nat) (xs : List Value) (hs : a.eval s = .slice (some ⟨g, 0, none⟩) n cap) (hown : w.ownsRow base e K (.slice (some ⟨g, 0, none⟩) n cap) n xs)
    (ad : Addr) (m c : Nat) (news : List Value) (hx : a.eval x = .slice (some ad) m c) (hl : news.length = m * K) (hnews : ∀ j u, news[j]? = some u → w.cell? (ad.add j) = some u) (h1 : ∀ u ∈ news, u.oneCell' = true)
    (hroom : n + m ≤ cap)
    (h : ∀ w', w'.ownsRow base e K (.slice (some ⟨g, 0, none⟩) (n + m) cap) (n + m) (xs ++ news) → w.grownBy w' (some g) → R (a.put o.dst (.slice (some ⟨g, 0, none⟩) (n + m) cap)) w') :
    if Region.wanted o (yielded ops a.tmps) = true then Oper.wp Try.prog o a w R Q else F := by
  have hw : Region.wanted o (yielded ops a.tmps) = true := by simp [Region.wanted, hgd]
  rw [if_pos hw]
  obtain ⟨i, z, hi, hz, hsz, _, _⟩ := E.inf
  exact wp_append_own_spare w s x T ho base e i K E.und hi hsz g n cap xs hs hown ad m c news hx hl hnews h1 hroom h

end Go.Proofs.Ytanhjjinedjaaaa
