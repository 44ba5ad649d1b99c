/-
  What a deadline's value is against its limits; an append of a slice of ticks that came in onto a row of the call's own.
  Conditions: as each theorem says.
-/
import Derived.Test.YtajcbljojfcceaaBase
import Derived.OwnWalk
import Derived.Laws.AppendOwn
import Derived.Laws.AppendOwnNone
namespace Go.Proofs.Ytajcbljojfcceaa
open Go.ChangeShapes Go.WideShapes Go.ChangeAt Go.RowKit

theorem minT_le (m t : Int) : minT m t ≤ m ∧ minT m t ≤ t := by unfold minT; split <;> omega
theorem minT_cases (m t : Int) : minT m t = m ∨ minT m t = t := by unfold minT; split <;> simp

theorem foldl_le (l : List Int) : ∀ m : Int, l.foldl minT m ≤ m ∧ ∀ x ∈ l, l.foldl minT m ≤ x := by
  induction l with
  | nil => intro m; exact ⟨Int.le_refl _, by simp⟩
  | cons y l ih =>
    intro m
    have h := ih (minT m y)
    have hm := minT_le m y
    refine ⟨Int.le_trans h.1 hm.1, fun x hx => ?_⟩
    rcases List.mem_cons.1 hx with rfl | hx
    · exact Int.le_trans h.1 hm.2
    · exact h.2 x hx

theorem minL_le (l : List Int) (x : Int) (h : x ∈ l) : minL l ≤ x := (foldl_le l _).2 x h

theorem dlT_eq {now span : Int} {zs : List Int} (hn : 0 ≤ now) (hs : 0 ≤ span) : dlT now span zs = minT (addT now span) (minL zs) := minL_two (addT_bd hn hs).2

theorem dlT_le {now span : Int} {zs : List Int} (hn : 0 ≤ now) (hs : 0 ≤ span) (k : Nat) (hk : k < zs.length) : dlT now span zs ≤ zs[k]?.getD 0 := by
  rw [dlT_eq hn hs]
  have h := minL_le zs (zs[k]?.getD 0) (by simp [hk])
  have := (minT_le (addT now span) (minL zs)).2
  omega

theorem dlT_more {now span over : Int} {zs : List Int} (hn : 0 ≤ now) (hn1 : now ≤ 18446744073709551615) (hs : 0 ≤ span) :
    dlT now span (zs ++ [over]) ≤ dlT now span zs ∧ dlT now span (zs ++ [over]) ≤ over ∧ (over < now ∨ dlT now span zs < now ∨ now ≤ dlT now span (zs ++ [over])) := by
  rw [dlT_eq hn hs, dlT_eq hn hs, minL_snoc]
  have ha : now ≤ addT now span := by unfold addT; split <;> omega
  unfold minT
  split <;> split <;> (try split) <;> (try split) <;> omega

theorem wpList_append_row {P : Program} {w : World} {ops : Array Oper} {rest : List Oper} {o : Oper} {a : Act} {Q : Exit → Act → World → Prop} (hgd : o.guard = none) (s x : Operand) (t : TypeId)
    (ho : o.op = .call { callee := .builtin .append, args := #[s, x], argTypes := #[t, t] })
    (base : Nat) (e : TypeId) (i : TypeInfo) (ht : P.underlying t = some (.slice e)) (hi : P.info? e = some i) (hz : i.zero = some (.int .u64 0))
    (hsize : i.size = 1) (hby : i.bytes = 8)
    (v : Value) (n : Nat) (xs : List Value) (hs : a.eval s = v) (hown : w.ownsRow base e 1 v n xs)
    (A : Option Addr) (m c : Nat) (zs : List Int) (hx : a.eval x = .slice A m c) (hr : IsRow .u64 w A m c zs)
    (h63 : n + m ≤ maxLen) (hbytes : (n + m) * 8 ≤ 140737488355328) (hbase : base ≤ w.heap.size)
    (h : ∀ v' w', w'.ownsRow base e 1 v' (n + m) (xs ++ (zs.take m).map (Value.int .u64)) → w.grownBy w' v.ownBlock → wpList P ops Q rest (a.put o.dst v') w') : wpList P ops Q (o :: rest) a w := by
  rcases hr with ⟨rfl, rfl, rfl, rfl⟩ | ⟨ad, rfl, hl, hm, hlen, hc, hw⟩
  · exact wpList_append_own_none hgd s x t ho base e i 1 ht hi v n xs hs hown hx (h v w (by simpa using hown) (World.grownBy.refl w _))
  · refine wpList_append_own w hgd s x t ho base e i _ 1 8 ht hi hz hsize hby rfl (by decide) v n xs hs hown ad m c ((zs.take m).map (Value.int .u64)) hx (by simp; omega) ?_ ?_ h63 hbytes hbase (fun v' w' h1 h2 _ => h v' w' h1 h2)
    · intro j u hj
      rw [List.getElem?_map, List.getElem?_take] at hj
      split at hj
      · rename_i hjm
        have hjl : j < zs.length := by omega
        rw [List.getElem?_eq_getElem hjl] at hj
        simp at hj
        subst hj
        have := hc j hjl
        rw [this]
        simp [hjl]
      · cases hj
    · intro u hu
      obtain ⟨n, _, rfl⟩ := List.mem_map.1 hu
      rfl

theorem IsRow.below {w w' : World} {a : Option Addr} {len cap : Nat} {zs : List Int} (h : IsRow .u64 w a len cap zs) (hb : Below w.heap.size w w') : IsRow .u64 w' a len cap zs := by
  rcases h with h | ⟨x, hx, h1, h2, h3, hc, h4⟩
  · exact .inl h
  · exact .inr ⟨x, hx, h1, h2, h3, fun i hi => by rw [hb.cell (cell_lt (hc i hi))]; exact hc i hi, h4⟩

theorem one_cell (w : World) (z : Int) : ∀ (j : Nat) (u : Value), [Value.int .u64 z][j]? = some u → (w.alloc (.cells #[.int .u64 z] 22)).cell? ((⟨w.heap.size, 0, none⟩ : Addr).add j) = some u := by
  intro j u hj
  match j, hj with
  | 0, hj => simp at hj; subst hj; simp [Addr.add]

theorem one_one (z : Int) : ∀ u ∈ [Value.int .u64 z], u.oneCell' = true := by intro u hu; simp at hu; subst hu; rfl

theorem lies_own {w : World} {base n : Nat} {v : Value} {zs : List Int} (h : w.ownsRow base 22 1 v n (zs.map (Value.int .u64))) (hn : 0 < n) (hm : n ≤ 9223372036854775807) (hw : ∀ z ∈ zs, 0 ≤ z ∧ z ≤ 18446744073709551615) :
    ∃ A c, v = .slice A n c ∧ Lies w A n zs := by
  obtain ⟨g, cap, rfl⟩ : ∃ g cap, v = .slice (some ⟨g, 0, none⟩) n cap := by
    rcases h.2 with ⟨_, h0⟩ | ⟨g, cap, _, hv, _⟩
    · omega
    · exact ⟨g, cap, hv⟩
  have hl : zs.length = n := by have := h.1; simpa using this
  refine ⟨_, _, rfl, hl.symm, hm, hw, fun i hi => ⟨g, 0, rfl, ?_⟩⟩
  have hc := h.cells (g := g) rfl i (.int .u64 (zs[i]?.getD 0)) (by rw [List.getElem?_map, List.getElem?_eq_getElem (by omega)]; simp)
  rw [Addr.add_lit] at hc
  exact hc

end Go.Proofs.Ytajcbljojfcceaa
