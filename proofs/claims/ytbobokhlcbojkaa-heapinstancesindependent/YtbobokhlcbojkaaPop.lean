/-
  What the law HeapPopsInOrder leans on: the entries that were pushed, the order in which they leave; no walk.
  Conditions: as each theorem says.
-/
import Derived.Test.YtbobokhlcbojkaaAwake
import Derived.Test.YtbobokhlcbojkaaI5
import Derived.Test.YtbobokhlcbojkaaI6
namespace Go.Proofs.Ytbobokhlcbojkaa
open Go.ChangeShapes Go.WideShapes Go.ChangeAt Go.RowKit Go.Maps
set_option linter.unusedVariables false

/-- What a walk is told of a slice of integers that came in. -/
def IsRow (k : IntKind) (w : World) (a : Option Addr) (len cap : Nat) (zs : List Int) : Prop :=
  (a = none ∧ len = 0 ∧ cap = 0 ∧ zs = []) ∨
  ∃ x, a = some x ∧ len ≤ cap ∧ cap ≤ maxLen ∧ zs.length = cap ∧ (∀ i, i < zs.length → w.cell? (x.add i) = some (.int k (zs.getD i 0))) ∧ ∀ n ∈ zs, (Lit.int k n).wf = true

def InRow (w : World) (a : Option Addr) (n : Nat) (z : Nat → Int) : Prop := n ≤ 9223372036854775807 ∧ ∀ i, i < n → (∃ b off, a = some ⟨b, off, none⟩ ∧ w.cell? ⟨b, off + i, none⟩ = some (.int .u64 (z i))) ∧ 0 ≤ z i ∧ z i ≤ 18446744073709551615

theorem IsRow.row {w : World} {a : Option Addr} {len cap : Nat} {zs : List Int} (h : IsRow .u64 w a len cap zs) : InRow w a len (fun i => zs.getD i 0) := by
  rcases h with ⟨rfl, rfl, rfl, rfl⟩ | ⟨x, rfl, h1, h2, h3, h4, h5⟩
  · exact ⟨by omega, fun i hi => by omega⟩
  · unfold maxLen at h2
    refine ⟨by omega, fun i hi => ?_⟩
    have hm : zs.getD i 0 ∈ zs := by
      rw [List.getD_eq_getElem?_getD, List.getElem?_eq_getElem (by omega)]
      exact List.getElem_mem _
    obtain ⟨b, off, rfl, hj⟩ := ints_at h4 (by omega)
    exact ⟨⟨b, off, rfl, hj i (by omega)⟩, bounds_u64 (h5 _ hm)⟩

theorem InRow.fr {S : Nat → Prop} {w w' : World} {a : Option Addr} {n : Nat} {z : Nat → Int} (h : InRow w a n z) (hf : Fr S w w') (hS : ∀ k, k < w.heap.size → ¬ S k) : InRow w' a n z := by
  refine ⟨h.1, fun i hi => ?_⟩
  obtain ⟨⟨b, off, hx, hc⟩, hb⟩ := h.2 i hi
  have hlt : b < w.heap.size := block_lt_of_cell hc
  exact ⟨⟨b, off, hx, (World.cell?_of_block (a := ⟨b, off + i, none⟩) (hf.block _ hlt (hS _ hlt))).trans hc⟩, hb⟩

def mkI (j : Nat) : Value := .int .i64 (j : Int)
def ent (z : Nat → Int) (mk : Nat → Value) (j : Nat) : Ent := ⟨z j, (j : Int) + 1, mk j⟩
def pushed (z : Nat → Int) (mk : Nat → Value) (n : Nat) : List Ent := (List.range n).map (ent z mk)

theorem pushed_length (z : Nat → Int) (mk : Nat → Value) (n : Nat) : (pushed z mk n).length = n := by simp [pushed]
theorem pushed_succ {A A' : List Ent} {z : Nat → Int} {mk : Nat → Value} {n : Nat} (h : A'.Perm (ent z mk n :: A)) (hA : A.Perm (pushed z mk n)) : A'.Perm (pushed z mk (n + 1)) := by
  unfold pushed
  rw [List.range_succ, List.map_append]
  exact (h.trans ((List.perm_cons _).2 hA)).trans (List.perm_append_singleton _ _).symm
theorem pushed_mem {z : Nat → Int} {mk : Nat → Value} {n : Nat} {e : Ent} (h : e ∈ pushed z mk n) : ∃ j, j < n ∧ e = ent z mk j := by
  simp only [pushed, List.mem_map, List.mem_range] at h
  obtain ⟨j, hj, rfl⟩ := h
  exact ⟨j, hj, rfl⟩

/-- The first entry of a heap is the first of the sorted list of its entries. -/
theorem first_is {V : Value → Prop} {st en : TypeId} {w : World} {hb mb : Nat} {sv : Value} {A T : List Ent} {last : Int} {s e0 : Ent} (h : HeapAt V st en w hb mb sv A last) (hO : Ordered A) (hp : A.Perm (s :: T)) (hs : (s :: T).Pairwise (fun a b => ¬ b.lt a)) (h0 : A[0]? = some e0) : e0 = s := by
  obtain ⟨⟨D, hr, ht⟩, hg⟩ := h
  have hm : e0 ∈ s :: T := hp.mem_iff.1 (List.mem_of_getElem? h0)
  obtain ⟨k, hk⟩ := mem_get (hp.mem_iff.2 (List.mem_cons_self (a := s) (l := T)))
  have h1 := hO.first h0 k s hk
  rcases List.mem_cons.1 hm with h2 | h2
  · exact h2
  · have h3 := (List.pairwise_cons.1 hs).1 e0 h2
    have hid : e0.id = s.id := by unfold Ent.lt at h1 h3; omega
    have := ht.inj h0 hk hid
    subst this
    rw [h0] at hk
    cases hk
    rfl

theorem drop_cons {S : List Ent} {i : Nat} {s : Ent} (h : S[i]? = some s) : S.drop i = s :: S.drop (i + 1) := by
  have hl := (List.getElem?_eq_some_iff.1 h).1
  rw [List.drop_eq_getElem_cons hl, (List.getElem?_eq_some_iff.1 h).2]

theorem sorted_next {S : List Ent} (hs : S.Pairwise (fun a b => ¬ b.lt a)) {i : Nat} {s t : Ent} (h1 : S[i]? = some s) (h2 : S[i + 1]? = some t) : ¬ t.lt s := by
  have l2 := (List.getElem?_eq_some_iff.1 h2).1
  have := List.pairwise_iff_getElem.1 hs i (i + 1) (by omega) l2 (by omega)
  rw [(List.getElem?_eq_some_iff.1 h1).2, (List.getElem?_eq_some_iff.1 h2).2] at this
  exact this

end Go.Proofs.Ytbobokhlcbojkaa
