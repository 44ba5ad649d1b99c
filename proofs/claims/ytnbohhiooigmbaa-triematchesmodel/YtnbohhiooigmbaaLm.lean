/-
  TrieMatchesModel: what a round of its loop does to the trie and to the row; no walk.
  Conditions: as each theorem says.
-/
import Derived.Test.YtnbohhiooigmbaaEd
import Derived.Test.YtnbohhiooigmbaaLo
namespace Go.Proofs.Ytnbohhiooigmbaa
open Go.ChangeShapes Go.WideShapes Go.ChangeAt Go.RowKit
set_option linter.unusedVariables false

/-- An operation that came in: its kind, its prefix, its number. -/
theorem op_at {w : World} {a : Option Addr} {n i : Nat} (h : InK 20 isOp w a n) (hi : i < n) : ∃ (b o : Nat) (k x : Int) (q : Px), Bytes q.xs ∧ a = some ⟨b, o, none⟩ ∧ ∀ (P : Program) (w' : World), Fr No w w' → w'.cell? ⟨b, o + i * 20, none⟩ = some (.int .i64 k) ∧ Sem.run P (loadCellsFrom ⟨b, o + i * 20 + 1, none⟩ 0 18 #[]) w' = .ok (pfx q.b q.xs q.n).toArray w' ∧ w'.cell? ⟨b, o + i * 20 + 19, none⟩ = some (.int .i64 x) := by
  obtain ⟨b, o, cs, ⟨k, q, x, hq, rfl⟩, hl, ha, hc⟩ := h.2 i hi
  have hp : (pfx q.b q.xs q.n).length = 18 := pfx_length hq.1
  refine ⟨b, o, k, x, q, hq, ha, fun P w' hf => ⟨hf.cell (hc 0 _ rfl), ?_, hf.cell (hc 19 _ ?_)⟩⟩
  · have := run_loadCellsFrom_list P w' ⟨b, o + i * 20 + 1, none⟩ (pfx q.b q.xs q.n) 18 hp (fun j v hv => by
      rw [Addr.add_lit, Nat.add_assoc, Nat.add_comm 1 j]
      refine hf.cell (hc (j + 1) v ?_)
      rw [List.getElem?_cons_succ, List.getElem?_append_left (List.getElem?_eq_some_iff.1 hv).1]
      exact hv)
    simpa using this
  · rw [List.getElem?_cons_succ, List.getElem?_append_right (by omega), hp]; rfl
/-- An address that came in. -/
theorem inA_at {w : World} {a : Option Addr} {n i : Nat} (h : InK 17 isAdr w a n) (hi : i < n) : ∃ (b o : Nat) (c : Bool) (ys : List Nat), Bytes ys ∧ a = some ⟨b, o, none⟩ ∧ ∀ (P : Program) (w' : World), Fr No w w' → Sem.run P (loadCellsFrom ⟨b, o + i * 17, none⟩ 0 17 #[]) w' = .ok (adr c ys).toArray w' := by
  obtain ⟨b, o, cs, ⟨c, ys, hy, rfl⟩, hl, ha, hc⟩ := h.2 i hi
  refine ⟨b, o, c, ys, hy, ha, fun P w' hf => ?_⟩
  have := run_loadCellsFrom_list P w' ⟨b, o + i * 17, none⟩ (adr c ys) 17 hl (fun j v hv => by
    rw [Addr.add_lit]
    exact hf.cell (hc j v hv))
  simpa using this
/-- What the law's loop keeps: the trie and the row hold one list; X: what the trie leaves alone. -/
def Both (w wr : World) (t : Nat) (ad : Option Addr) (n : Nat) (L : List (Px × Value)) (X : Nat → Prop) : Prop :=
  StI wr t L X ∧ RowE wr ad L ∧ L.length = n ∧ (∀ k, X k → k < wr.heap.size) ∧ (∀ k, k < w.heap.size → X k) ∧ (∀ q, ad = some q → X q.block) ∧ Fr No w wr
theorem Both.no {w wr wr' : World} {t : Nat} {ad : Option Addr} {n : Nat} {L : List (Px × Value)} {X : Nat → Prop} (h : Both w wr t ad n L X) (hf : Fr No wr wr') : Both w wr' t ad n L X := by
  obtain ⟨h1, h2, h3, h4, h5, h6, h7⟩ := h
  exact ⟨h1.no hf, h2.no hf, h3, fun k hk => Nat.lt_of_lt_of_le (h4 k hk) hf.size, h5, h6, h7.trans hf⟩
theorem RowE.fr {S : Nat → Prop} {w w' : World} {a : Option Addr} {A : List (Px × Value)} (h : RowE w a A) (hf : Fr S w w') (hS : ∀ q, a = some q → ¬ S q.block) : RowE w' a A := by
  refine ⟨h.1, fun hn => ?_⟩
  obtain ⟨b, o, cs, T, f, h1, h2, h3⟩ := h.2 hn
  exact ⟨b, o, cs, T, f, h1, (hf.block b (some_lt h2) (hS _ h1)).trans h2, h3⟩
theorem flatE_one {L : List (Px × Value)} (h : ∀ e ∈ L, okE e) : ∀ u ∈ flatE L, u.oneCell' = true := by
  intro u hu
  obtain ⟨e, he, hu⟩ := List.mem_flatMap.1 hu
  exact ent19_one (h e he) u hu
theorem own_cap {w : World} {base e K n cap : Nat} {ad : Option Addr} {xs : List Value} (h : w.ownsRow base e K (.slice ad n cap) n xs) : n ≤ cap ∧ cap ≤ 9223372036854775807 := by
  rcases h.2 with ⟨h1, h2⟩ | ⟨g, c, cur, h1, -, -, h2, h3, -⟩
  · cases h1; omega
  · cases h1
    unfold maxLen at h3
    exact ⟨h2, by omega⟩
/-- A fresh row joins what the trie leaves alone. -/
theorem both_new {w w9 w10 : World} {t base : Nat} {L' : List (Px × Value)} {X1 : Nat → Prop} {ad : Option Addr} {m cp b8 i : Nat} {C : Obj}
    (hS : StI w9 t L' X1) (hX : ∀ k, X1 k → k < w9.heap.size) (hw : ∀ k, k < w.heap.size → X1 k) (h8 : X1 b8) (hf : Fr No w w9) (hk : w9.heap[b8]? = some C)
    (hb : w9.heap.size ≤ base) (ho : w10.ownsRow base 37 19 (.slice ad m cp) m (flatE L')) (hok : ∀ e ∈ L', okE e) (h10 : Fr No w9 w10) (hl : L'.length ≤ i + 1) :
    ∃ (n' cp' : Nat) (ad' : Option Addr), Value.slice ad m cp = .slice ad' n' cp' ∧ n' ≤ i + 1 ∧ n' ≤ cp' ∧ cp' ≤ 9223372036854775807 ∧ Hid (∃ L' X', Both w w10 t ad' n' L' X' ∧ w10.heap[b8]? = some C ∧ X' b8) := by
  obtain ⟨h1, h2⟩ := RowE.own hok ho
  obtain ⟨c1, c2⟩ := own_cap ho
  have hlt := ho.lt
  refine ⟨m, cp, ad, rfl, by omega, c1, c2, L', fun k => X1 k ∨ ∃ q, ad = some q ∧ k = q.block, ⟨?_, h1, h2, ?_, fun k hk => .inl (hw k hk), fun q hq => .inr ⟨q, hq, rfl⟩, hf.trans h10⟩, h10.keep hk, .inl h8⟩
  · refine (hS.add (Y := fun k => X1 k ∨ ∃ q, ad = some q ∧ k = q.block) fun k hk => hk.imp id ?_).no h10
    rintro ⟨q, rfl, rfl⟩
    exact Nat.le_trans hb (hlt q.block rfl).1
  · rintro k (hk | ⟨q, rfl, rfl⟩)
    · exact Nat.lt_of_lt_of_le (hX k hk) h10.size
    · exact (hlt q.block rfl).2
/-- The row stays as it was. -/
theorem both_same {w w6 w8 w9 : World} {t : Nat} {L : List (Px × Value)} {X1 : Nat → Prop} {ad : Option Addr} {n cp b8 i : Nat} {C : Obj}
    (hr : RowE w6 ad L) (hX : ∀ k, X1 k → k < w6.heap.size) (hw : ∀ k, k < w.heap.size → X1 k) (h8 : X1 b8) (ha : ∀ q, ad = some q → X1 q.block) (hf : Fr No w w6) (hk : w6.heap[b8]? = some C)
    (hS : StI w8 t L X1) (h68 : Fr (fun k => ¬ X1 k) w6 w8) (h89 : Fr No w8 w9) (hl : L.length = n) (hn : n ≤ i + 1) (c1 : n ≤ cp) (c2 : cp ≤ 9223372036854775807) :
    ∃ (n' cp' : Nat) (ad' : Option Addr), Value.slice ad n cp = .slice ad' n' cp' ∧ n' ≤ i + 1 ∧ n' ≤ cp' ∧ cp' ≤ 9223372036854775807 ∧ Hid (∃ L' X', Both w w9 t ad' n' L' X' ∧ w9.heap[b8]? = some C ∧ X' b8) := by
  have h8o : Fr No w w8 := hf.ofNew h68 fun k hk => .inr (Nat.le_of_not_lt fun h => hk (hw k h))
  refine ⟨n, cp, ad, rfl, hn, c1, c2, L, X1, ⟨hS.no h89, (hr.fr h68 fun q hq hc => hc (ha q hq)).no h89, hl, fun k hk => Nat.lt_of_lt_of_le (hX k hk) (Nat.le_trans h68.size h89.size), hw, ha, h8o.trans h89⟩, h89.keep ((h68.block b8 (some_lt hk) fun hc => hc h8).trans hk), h8⟩
theorem put_ok {L : List (Px × Value)} {p : Px} {z : Int} (hs : Srt L) (h : ∀ e ∈ L, okE e) (hp : Bytes p.xs) : ∀ e ∈ putL p (.int .i64 z) L, okE e := fun e he => by
  rcases (putL_mem hs).1 he with h1 | h1
  · rw [h1]; exact ⟨hp, z, rfl⟩
  · exact h e h1.2
theorem del_ok {L : List (Px × Value)} {p : Px} (h : ∀ e ∈ L, okE e) : ∀ e ∈ del p L, okE e := fun e he => h e (List.mem_filter.1 he).1
end Go.Proofs.Ytnbohhiooigmbaa
