/-
  Rows of prefixes in memory: what append does to a row that the call owns, its elements of several cells.
  Conditions: none.
-/
import Derived.Test.YtnadendhboiliaaGreatMa
import Derived.Test.YtnadendhboiliaaGreatGr
import Derived.Test.YtnadendhboiliaaGreatCb
namespace Go.Proofs.YtnadendhboiliaaGreat
open Go.ChangeShapes Go.WideShapes Go.ChangeAt Go.RowKit
set_option linter.unusedVariables false

structure Ew (st e : TypeId) (K B : Nat) : Prop where
  und : Tryz.prog.underlying st = some (.slice e)
  info : ∃ z, (Tryz.prog.info? e).map (fun i => (i.zero, i.size, i.bytes)) = some (some z, K, B) ∧ z.cells.size = K
  pos : 0 < K
theorem ewP : Ew 89 29 18 32 := ⟨Tryz.underlying89, ⟨.agg noP.toArray, by kernel_rfl, rfl⟩, by decide⟩
theorem run_append_w {w : World} {st e : TypeId} {K B : Nat} (E : Ew st e K B) (ty : TypeId) (base : Nat) (v : Value) (n : Nat) (xs : List Value) (hown : w.ownsRow base e K v n xs) (ad : Addr) (c : Nat) (ys : List Value) (hy1 : ∀ u ∈ ys, u.oneCell' = true) (hm : ys.length = K) (hA : At w (some ad) ys)
    (hbytes : (n + 1) * B ≤ 140737488355328) (hB : 0 < B) (hbase : base ≤ w.heap.size) :
    ∃ a cap w', (Builtin.append_ #[st, st] ty #[v, .slice (some ad) 1 c]).run Tryz.prog w = .ok (.slice a (n + 1) cap) w' ∧ w'.ownsRow base e K (.slice a (n + 1) cap) (n + 1) (xs ++ ys) ∧ w.grownBy w' v.ownBlock ∧ ((Value.slice a (n + 1) cap).ownBlock = v.ownBlock ∨ (Value.slice a (n + 1) cap).ownBlock = some w.heap.size) := by
  obtain ⟨z, hinfo, hzl⟩ := E.info
  obtain ⟨i0, hi, hz0, hz1, hz2⟩ := info_parts hinfo
  have hn : n + 1 ≤ maxLen := by
    have : (n + 1) * 1 ≤ (n + 1) * B := Nat.mul_le_mul_left _ hB
    unfold maxLen; omega
  obtain ⟨v', w', hr, h2, h3, _, h5⟩ := run_append_own_at (P := Tryz.prog) w base st ty e i0 _ K B E.und hi hz0 hz1 hz2 hzl E.pos v n _ hown ad 1 c ys (by omega) hA.src hy1 hn hbytes hbase
  obtain ⟨a, cap, rfl, _⟩ := row_any h2
  exact ⟨a, cap, w', hr, h2, h3, h5⟩
theorem wpList_append_w {w : World} {st e : TypeId} {K B : Nat} (E : Ew st e K B) {ops : Array Oper} {rest : List Oper} {o : Oper} {a : Act} {Q : Exit → Act → World → Prop} (hgd : o.guard = none) (s x : Operand)
    (ho : o.op = .call { callee := .builtin .append, args := #[s, x], argTypes := #[st, st] })
    (base : Nat) (v : Value) (n : Nat) (xs : List Value) (hs : a.eval s = v) (hown : w.ownsRow base e K v n xs) (ad : Addr) (c : Nat) (ys : List Value) (hx : a.eval x = .slice (some ad) 1 c) (hy1 : ∀ u ∈ ys, u.oneCell' = true) (hm : ys.length = K) (hA : At w (some ad) ys)
    (hbytes : (n + 1) * B ≤ 140737488355328) (hB : 0 < B) (hbase : base ≤ w.heap.size)
    (h : ∀ a2 cap w', w'.ownsRow base e K (.slice a2 (n + 1) cap) (n + 1) (xs ++ ys) → w.grownBy w' v.ownBlock → ((Value.slice a2 (n + 1) cap).ownBlock = v.ownBlock ∨ (Value.slice a2 (n + 1) cap).ownBlock = some w.heap.size) → wpList Tryz.prog ops Q rest (a.put o.dst (.slice a2 (n + 1) cap)) w') : wpList Tryz.prog ops Q (o :: rest) a w := by
  obtain ⟨a2, cap, w', hr, h2, h3, h4⟩ := run_append_w E o.type base v n xs hown ad c ys hy1 hm hA hbytes hB hbase
  exact wpList_plain hgd fun _ hK => Lib.wp_append_run w s x st st ho v _ hs hx _ _ hr (hK _ _ (h a2 cap w' h2 h3 h4))
/-- What grew is new. -/
theorem Fr.own_grown_w {w0 w w' : World} {base e K : Nat} {v : Value} {n : Nat} {xs : List Value} (hf : Fr No w0 w) (hown : w.ownsRow base e K v n xs) (hb : w0.heap.size ≤ base) (hg : w.grownBy w' v.ownBlock) : Fr No w0 w' := by
  exact hf.ofNew (Fr.grown (S := fun k => base ≤ k) hg (fun k hk => (hown.lt k hk).1)) fun k hk => .inr (by omega)
theorem row_base_w {w : World} {e K b b' n : Nat} {v : Value} {xs : List Value} (h : w.ownsRow b e K v n xs) (hb : b' ≤ b) : w.ownsRow b' e K v n xs := by
  refine ⟨h.1, ?_⟩
  rcases h.2 with h1 | ⟨g, cap, cur, hv, hg, rest⟩
  · exact .inl h1
  · exact .inr ⟨g, cap, cur, hv, Nat.le_trans hb hg, rest⟩
theorem fold_list : ∀ (L : List Value) (n : Nat) (M : Array Value), n + L.length ≤ M.size → ((L.zipIdx n).foldl (fun (cs : Array Value) (x : Value × Nat) => cs.setIfInBounds x.snd x.fst) M).toList = M.toList.take n ++ L ++ M.toList.drop (n + L.length)
  | [], n, M, _ => by simp
  | a :: L, n, M, h => by
    rw [List.zipIdx_cons, List.foldl_cons, fold_list L (n + 1) _ (by rw [Array.size_setIfInBounds]; rw [List.length_cons] at h; omega)]
    have hn : n < M.toList.length := by rw [Array.length_toList]; rw [List.length_cons] at h; omega
    rw [Array.toList_setIfInBounds, List.take_add_one, List.take_set_of_le (Nat.le_refl _), List.getElem?_set_self hn, List.drop_set_of_lt (by omega)]
    simp [Nat.add_comm, Nat.add_left_comm]
theorem fold_set {k : Nat} (M K : Array Value) (hM : M.size = k) (hK : K.size = k) : Array.foldl (fun (cs : Array Value) (x : Value × Nat) => cs.setIfInBounds x.snd x.fst) M K.zipIdx 0 k = K := by
  subst hK
  have hs : K.size = K.zipIdx.size := by rw [Array.size_zipIdx]
  rw [hs, ← Array.foldl_toList, Array.toList_zipIdx]
  apply Array.toList_inj.1
  rw [fold_list _ 0 _ (by rw [Array.length_toList]; omega)]
  simp [← hM]
/-- Prefixes in a row. -/
def flatP (L : List Px) : List Value := L.flatMap fun q => pfx q.b q.xs q.n
theorem flatP_append (A B : List Px) : flatP (A ++ B) = flatP A ++ flatP B := List.flatMap_append
theorem flatP_length {L : List Px} (h : ∀ q ∈ L, Bytes q.xs) : (flatP L).length = L.length * 18 := by
  induction L with
  | nil => rfl
  | cons q L ih =>
    rw [flatP, List.flatMap_cons, List.length_append, pfx_length (h q List.mem_cons_self).1, List.length_cons]
    have := ih fun q hq => h q (List.mem_cons_of_mem _ hq)
    unfold flatP at this
    omega
end Go.Proofs.YtnadendhboiliaaGreat
