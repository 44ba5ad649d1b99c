/-
  Rules as data: when one is valid, applies, decides; the deciding rule of a list; no walk.
  Conditions: none.
  LAWS of appending many wide elements to a row that a call has made; what a row of rules holds, cell by cell; no walk.
  Conditions: as each theorem says.
-/
import Derived.Test.YtnadendhboiliaaGreatMb
import Derived.Test.YtnadendhboiliaaGreatN2
import Derived.Great.BuildSlice
namespace Go.Proofs.YtnadendhboiliaaGreat
open Go.ChangeShapes Go.WideShapes Go.ChangeAt Go.RowKit
set_option linter.unusedVariables false

/-- A rule. -/
structure Ru where
  al : Bool
  sf : List UInt8
  p : Px
  lo : Int
  hi : Int
def zP : Px := ⟨false, zeros, 0⟩
/-- A rule's cells. -/
def ruC (r : Ru) : List Value := .bool r.al :: .string (bs r.sf) :: (pfx r.p.b r.p.xs r.p.n ++ [.int .i64 r.lo, .int .i64 r.hi])
theorem ruC_length {r : Ru} (h : r.p.xs.length = 16) : (ruC r).length = 22 := by simp [ruC, pfx_length h]
theorem ruC_one (r : Ru) : ∀ u ∈ ruC r, u.oneCell' = true := by
  intro u hu
  rcases List.mem_cons.1 hu with rfl | hu
  · rfl
  · rcases List.mem_cons.1 hu with rfl | hu
    · rfl
    · rcases List.mem_append.1 hu with hu | hu
      · exact pfx_one _ _ _ u hu
      · simp only [List.mem_cons, List.not_mem_nil, or_false] at hu
        rcases hu with rfl | rfl <;> rfl
theorem ruC_pfx {r : Ru} {j : Nat} {v : Value} (h : (pfx r.p.b r.p.xs r.p.n)[j]? = some v) : (ruC r)[2 + j]? = some v := by
  have hj := (List.getElem?_eq_some_iff.1 h).1
  rw [Nat.add_comm, ruC, List.getElem?_cons_succ, List.getElem?_cons_succ, List.getElem?_append_left hj]
  exact h
theorem ruC_n {r : Ru} (h : Bytes r.p.xs) : (ruC r)[19]? = some (.int .i64 r.p.n) := by
  have := @ruC_pfx r 17 (.int .i64 r.p.n) (by rw [pfx, List.getElem?_append_right (by rw [adr_length, h.1]; omega), adr_length, h.1]; rfl)
  exact this
theorem ruC_lo {r : Ru} (h : Bytes r.p.xs) : (ruC r)[20]? = some (.int .i64 r.lo) := by
  rw [ruC, List.getElem?_cons_succ, List.getElem?_cons_succ, List.getElem?_append_right (by rw [pfx_length h.1]; omega), pfx_length h.1]; rfl
theorem ruC_hi {r : Ru} (h : Bytes r.p.xs) : (ruC r)[21]? = some (.int .i64 r.hi) := by
  rw [ruC, List.getElem?_cons_succ, List.getElem?_cons_succ, List.getElem?_append_right (by rw [pfx_length h.1]; omega), pfx_length h.1]; rfl
/-- A rule as a letter. -/
theorem ru_letter (r : Ru) (h : Bytes r.p.xs) : ∃ R : Array Value, (ruC r).toArray = R ∧ R.size = 22 ∧ R[0]? = some (.bool r.al) ∧ R[1]? = some (.string (bs r.sf)) ∧ R[19]? = some (.int .i64 r.p.n) ∧ R[20]? = some (.int .i64 r.lo) ∧ R[21]? = some (.int .i64 r.hi) ∧ (∀ (j : Nat) v, (pfx r.p.b r.p.xs r.p.n).toArray[j]? = some v → R[2 + j]? = some v) ∧ ∀ u ∈ R.toList, u.oneCell' = true := by
  refine ⟨_, rfl, by rw [List.size_toArray]; exact ruC_length h.1, rfl, rfl, ?_, ?_, ?_, fun j v hj => ?_, fun u hu => ruC_one r u (by simpa using hu)⟩
  · rw [List.getElem?_toArray]; exact ruC_n h
  · rw [List.getElem?_toArray]; exact ruC_lo h
  · rw [List.getElem?_toArray]; exact ruC_hi h
  · rw [List.getElem?_toArray] at hj ⊢; exact ruC_pfx hj
/-- When a rule is valid. -/
def vR (r : Ru) : Bool := (decide (0 ≤ r.lo) && decide (r.lo ≤ r.hi) && decide (r.hi ≤ 65535)) && (if r.sf = [] then validP r.p.b r.p.xs r.p.n else nameV r.sf && decide (r.p = zP))
def vRs (L : List Ru) : Bool := decide (L.length ≤ 32) && L.all vR
def apl (r : Ru) (port : Int) : Bool := decide (r.lo ≤ port) && decide (port ≤ r.hi)
/-- An address rule that decides. -/
def mtA (c : Bool) (ys : List Nat) (port : Int) (r : Ru) : Bool := decide (r.sf = []) && apl r port && has r.p c ys
def mtN (s : List UInt8) (port : Int) (r : Ru) : Bool := decide (r.sf ≠ []) && apl r port && subV s r.sf
def kA (r : Ru) : Int := r.p.n
def kN (r : Ru) : Int := (cntV r.sf : Nat)
def kAt (k : Ru → Int) (L : List Ru) (v : Int) : Int := match L[v.toNat]? with
  | some q => k q
  | none => 0
/-- The deciding rule among the first i. -/
def bN (m : Ru → Bool) (k : Ru → Int) (L : List Ru) : Nat → Int
  | 0 => -1
  | i + 1 => match L[i]? with
    | none => bN m k L i
    | some r => if (m r && (decide (bN m k L i < 0) || decide (kAt k L (bN m k L i) < k r))) = true then (i : Int) else bN m k L i
theorem bN_step {m : Ru → Bool} {k : Ru → Int} {L : List Ru} {i : Nat} {r : Ru} (h : L[i]? = some r) : bN m k L (i + 1) = if (m r && (decide (bN m k L i < 0) || decide (kAt k L (bN m k L i) < k r))) = true then (i : Int) else bN m k L i := by
  rw [bN, h]
def bV (m : Ru → Bool) (k : Ru → Int) (L : List Ru) : Int := bN m k L L.length
/-- What the deciding rule is. -/
def Bst (m : Ru → Bool) (k : Ru → Int) (L : List Ru) (i : Nat) (v : Int) : Prop := (v = -1 ∧ ∀ (j : Nat) (q : Ru), j < i → L[j]? = some q → m q = false) ∨ ∃ (t : Nat) (r : Ru), v = t ∧ t < i ∧ L[t]? = some r ∧ m r = true ∧ ∀ (j : Nat) (q : Ru), j < i → L[j]? = some q → m q = true → k q < k r ∨ (k q = k r ∧ t ≤ j)
theorem kAt_nat {k : Ru → Int} {L : List Ru} {t : Nat} {r : Ru} (h : L[t]? = some r) : kAt k L (t : Int) = k r := by rw [kAt, Int.toNat_natCast, h]
theorem bN_spec (m : Ru → Bool) (k : Ru → Int) (L : List Ru) : ∀ i, i ≤ L.length → Bst m k L i (bN m k L i)
  | 0, _ => .inl ⟨rfl, fun j q h => by omega⟩
  | i + 1, hi => by
    have ih := bN_spec m k L i (by omega)
    obtain ⟨r, hr⟩ : ∃ r, L[i]? = some r := ⟨_, List.getElem?_eq_getElem (by omega)⟩
    rw [bN_step hr]
    rcases ih with ⟨h1, h2⟩ | ⟨t, q, h1, h2, h3, h4, h5⟩
    · rw [h1]
      cases hm : m r with
      | false =>
        rw [if_neg (by simp)]
        refine .inl ⟨rfl, fun j q hj hq => ?_⟩
        by_cases hji : j = i
        · subst hji; rw [hr] at hq; cases hq; exact hm
        · exact h2 j q (by omega) hq
      | true =>
        rw [if_pos (by simp)]
        refine .inr ⟨i, r, rfl, by omega, hr, hm, fun j q hj hq hmq => ?_⟩
        by_cases hji : j = i
        · subst hji; rw [hr] at hq; cases hq; exact .inr ⟨rfl, Nat.le_refl _⟩
        · rw [h2 j q (by omega) hq] at hmq; cases hmq
    · rw [h1, kAt_nat h3, decide_eq_false (show ¬ (t : Int) < 0 by omega), Bool.false_or]
      by_cases hc : m r = true ∧ k q < k r
      · rw [if_pos (by rw [hc.1, decide_eq_true hc.2]; rfl)]
        refine .inr ⟨i, r, rfl, by omega, hr, hc.1, fun j x hj hx hmx => ?_⟩
        by_cases hji : j = i
        · subst hji; rw [hr] at hx; cases hx; exact .inr ⟨rfl, Nat.le_refl _⟩
        · rcases h5 j x (by omega) hx hmx with h | h
          · exact .inl (by omega)
          · exact .inl (by omega)
      · rw [if_neg (fun h => hc (by rw [Bool.and_eq_true, decide_eq_true_iff] at h; exact h))]
        refine .inr ⟨t, q, rfl, by omega, h3, h4, fun j x hj hx hmx => ?_⟩
        by_cases hji : j = i
        · subst hji; rw [hr] at hx; cases hx
          have : ¬ k q < k r := fun h => hc ⟨hmx, h⟩
          by_cases he : k r = k q
          · exact .inr ⟨he, by omega⟩
          · exact .inl (by omega)
        · exact h5 j x (by omega) hx hmx
theorem Bst.eq {m : Ru → Bool} {k : Ru → Int} {L : List Ru} {i : Nat} {v v' : Int} (h : Bst m k L i v) (h' : Bst m k L i v') : v = v' := by
  rcases h with ⟨rfl, h⟩ | ⟨t, r, rfl, h1, h2, h3, h4⟩ <;> rcases h' with ⟨rfl, k⟩ | ⟨t', r', rfl, k1, k2, k3, k4⟩
  · rfl
  · rw [h _ _ k1 k2] at k3; cases k3
  · rw [k _ _ h1 h2] at h3; cases h3
  · have a := h4 _ _ k1 k2 k3
    have b := k4 _ _ h1 h2 h3
    omega
theorem bV_of {m : Ru → Bool} {k : Ru → Int} {L : List Ru} {v : Int} (h : Bst m k L L.length v) : v = bV m k L := h.eq (bN_spec m k L _ (Nat.le_refl _))
theorem bN_two (m : Ru → Bool) (k : Ru → Int) (L : List Ru) (i : Nat) (hi : i ≤ L.length) : bN m k L i = -1 ∨ ∃ (t : Nat) (r : Ru), bN m k L i = t ∧ t < i ∧ L[t]? = some r ∧ m r = true := by
  rcases bN_spec m k L i hi with h | ⟨t, r, h1, h2, h3, h4, -⟩
  · exact .inl h.1
  · exact .inr ⟨t, r, h1, h2, h3, h4⟩
/-- Rules in a row. -/
def flatR (L : List Ru) : List Value := L.flatMap ruC
theorem flatR_append (A B : List Ru) : flatR (A ++ B) = flatR A ++ flatR B := List.flatMap_append
theorem flatR_one (L : List Ru) : ∀ u ∈ flatR L, u.oneCell' = true := by
  intro u hu
  obtain ⟨q, -, hq⟩ := List.mem_flatMap.1 hu
  exact ruC_one _ u hq
/-- Rules whose prefixes are of bytes. -/
def okL (L : List Ru) : Prop := ∀ r ∈ L, Bytes r.p.xs
theorem flatR_length {L : List Ru} (h : okL L) : (flatR L).length = L.length * 22 := by
  induction L with
  | nil => rfl
  | cons q L ih =>
    rw [flatR, List.flatMap_cons, List.length_append, ruC_length (h q List.mem_cons_self).1, List.length_cons]
    have := ih fun q hq => h q (List.mem_cons_of_mem _ hq)
    unfold flatR at this
    omega
theorem flatR_get {A : List Ru} (hb : okL A) {i : Nat} {q : Ru} (h : A[i]? = some q) {j : Nat} {v : Value} (hv : (ruC q)[j]? = some v) : (flatR A)[i * 22 + j]? = some v := by
  have hlt := (List.getElem?_eq_some_iff.1 h).1
  have hA : A = A.take i ++ q :: A.drop (i + 1) := by
    rw [← (List.getElem?_eq_some_iff.1 h).2, ← List.drop_eq_getElem_cons hlt, List.take_append_drop]
  have hl : (flatR (A.take i)).length = i * 22 := by rw [flatR_length fun x hx => hb x (List.mem_of_mem_take hx), List.length_take]; congr 1; omega
  rw [hA, flatR_append, List.getElem?_append_right (by omega), hl, show i * 22 + j - i * 22 = j by omega, flatR, List.flatMap_cons, List.getElem?_append_left (List.getElem?_eq_some_iff.1 hv).1]
  exact hv
/-- A row of rules in memory. -/
def RowR (w : World) (a : Option Addr) (A : List Ru) : Prop := okL A ∧ (A ≠ [] → ∃ b o cs T f, a = some ⟨b, o, none⟩ ∧ w.heap[b]? = some (.cells cs T f) ∧ ∀ (j : Nat) v, (flatR A)[j]? = some v → cs[o + j]? = some v)
theorem RowR.no {w w' : World} {a : Option Addr} {A : List Ru} (h : RowR w a A) (hf : Fr No w w') : RowR w' a A :=
  ⟨h.1, fun hn => by obtain ⟨b, o, cs, T, f, h1, h2, h3⟩ := h.2 hn; exact ⟨b, o, cs, T, f, h1, hf.keep h2, h3⟩⟩
theorem RowR.fr {S : Nat → Prop} {w w' : World} {a : Option Addr} {A : List Ru} (h : RowR w a A) (hf : Fr S w w') (hS : ∀ ad, a = some ad → A ≠ [] → ¬ S ad.block) : RowR w' a A :=
  ⟨h.1, fun hn => by
    obtain ⟨b, o, cs, T, f, h1, h2, h3⟩ := h.2 hn
    exact ⟨b, o, cs, T, f, h1, (hf.block b (some_lt h2) (hS _ h1 hn)).trans h2, h3⟩⟩
theorem RowR.cell {w : World} {a : Option Addr} {A : List Ru} (h : RowR w a A) {i : Nat} {q : Ru} (hq : A[i]? = some q) : ∃ b o, a = some ⟨b, o, none⟩ ∧ Bytes q.p.xs ∧ ∀ (w' : World), Fr No w w' → (∀ (P : Program), Sem.run P (loadCellsFrom ⟨b, o + i * 22, none⟩ 0 22 #[]) w' = .ok (ruC q).toArray w') ∧ ∀ (j : Nat) v, (ruC q)[j]? = some v → w'.cell? ⟨b, o + i * 22 + j, none⟩ = some v := by
  have hn : A ≠ [] := fun hc => by rw [hc] at hq; cases hq
  obtain ⟨b, o, cs, T, f, h1, h2, h3⟩ := h.2 hn
  have hb := h.1 q (List.mem_of_getElem? hq)
  refine ⟨b, o, h1, hb, fun w' hf => ⟨fun P => ?_, fun j v hj => ?_⟩⟩
  · refine load_block (hf.keep h2) (by rw [List.size_toArray]; exact ruC_length hb.1) fun j v hv => ?_
    rw [List.getElem?_toArray] at hv
    rw [Nat.add_assoc]
    exact h3 _ _ (flatR_get h.1 hq hv)
  · refine cell_of (hf.keep h2) ?_
    rw [Nat.add_assoc]
    exact h3 _ _ (flatR_get h.1 hq hj)
theorem RowR.pfx {w : World} {a : Option Addr} {A : List Ru} (h : RowR w a A) {i : Nat} {q : Ru} (hq : A[i]? = some q) {b o : Nat} (he : a = some ⟨b, o, none⟩) {w' : World} (hf : Fr No w w') (P : Program) : Sem.run P (loadCellsFrom ⟨b, o + i * 22 + 2, none⟩ 0 18 #[]) w' = .ok (pfx q.p.b q.p.xs q.p.n).toArray w' := by
  have hn : A ≠ [] := fun hc => by rw [hc] at hq; cases hq
  obtain ⟨b', o', cs, T, f, h1, h2, h3⟩ := h.2 hn
  rw [he] at h1; cases h1
  have hb := h.1 q (List.mem_of_getElem? hq)
  refine load_block (hf.keep h2) (by rw [List.size_toArray]; exact pfx_length hb.1) fun j v hv => ?_
  rw [List.getElem?_toArray] at hv
  rw [Nat.add_assoc o, Nat.add_assoc, Nat.add_assoc]
  exact h3 _ _ (flatR_get h.1 hq (ruC_pfx hv))
theorem RowR.own {w : World} {base n cap : Nat} {a : Option Addr} {A : List Ru} (hb : okL A) (h : w.ownsRow base 31 22 (.slice a n cap) n (flatR A)) : RowR w a A ∧ A.length = n ∧ ∀ ad, a = some ad → base ≤ ad.block := by
  have hl := h.1
  rw [flatR_length hb] at hl
  refine ⟨⟨hb, fun hn => ?_⟩, by omega, ?_⟩
  · rcases h.2 with ⟨hv, h0⟩ | ⟨g, cap', cur, hv, _, hg, _, _, _, ht⟩
    · cases hv
      exact absurd (List.length_eq_zero_iff.1 (by omega)) hn
    · cases hv
      refine ⟨g, 0, cur, 31, (0, 0), rfl, hg, fun j v hj => ?_⟩
      rw [← ht, List.getElem?_take] at hj
      split at hj
      · rw [Nat.zero_add, ← Array.getElem?_toList]; exact hj
      · cases hj
  · intro ad he
    rcases h.2 with ⟨hv, h0⟩ | ⟨g, cap', cur, hv, hbs, hg, _, _, _, ht⟩
    · cases hv; cases he
    · cases hv; cases he; exact hbs
theorem ewR : Ew 22 31 22 72 := ⟨Tryz.underlying22, ⟨.agg (ruC ⟨false, [], zP, 0, 0⟩).toArray, by kernel_rfl, rfl⟩, by decide⟩
end Go.Proofs.YtnadendhboiliaaGreat
namespace Go.Proofs.YtnadendhboiliaaGreat
open Go.ChangeShapes Go.WideShapes Go.ChangeAt Go.RowKit
set_option linter.unusedVariables false

theorem run_append_many {w : World} {st e : TypeId} {K B : Nat} (E : Ew st e K B) (ty : TypeId) (base : Nat) (v : Value) (n : Nat) (xs : List Value) (hown : w.ownsRow base e K v n xs) (A : Option Addr) (m c : Nat) (ys : List Value) (hy1 : ∀ u ∈ ys, u.oneCell' = true) (hm : ys.length = m * K) (hA : At w A ys) (hnil : A = none → m = 0 ∧ c = 0)
    (hbytes : (n + m) * B ≤ 140737488355328) (hB : 0 < B) (hbase : base ≤ w.heap.size) :
    ∃ a cap w', (Builtin.append_ #[st, st] ty #[v, .slice A m c]).run Tryz.prog w = .ok (.slice a (n + m) cap) w' ∧ w'.ownsRow base e K (.slice a (n + m) cap) (n + m) (xs ++ ys) ∧ w.grownBy w' v.ownBlock ∧ ((Value.slice a (n + m) cap).ownBlock = v.ownBlock ∨ (Value.slice a (n + m) cap).ownBlock = some w.heap.size) := by
  obtain ⟨z, hinfo, hzl⟩ := E.info
  obtain ⟨i0, hi, hz0, hz1, hz2⟩ := info_parts hinfo
  have hn : n + m ≤ maxLen := by
    have : (n + m) * 1 ≤ (n + m) * B := Nat.mul_le_mul_left _ hB
    unfold maxLen; omega
  cases A with
  | none =>
    obtain ⟨rfl, rfl⟩ := hnil rfl
    obtain rfl : ys = [] := List.eq_nil_of_length_eq_zero (by omega)
    obtain ⟨a, cap, rfl, _⟩ := row_any hown
    exact ⟨a, cap, w, run_append_owned_none w base st ty e i0 K E.und hi _ n _ hown, by simpa using hown, World.grownBy.refl w _, .inl rfl⟩
  | some ad =>
    obtain ⟨v', w', hr, h2, h3, _, h5⟩ := run_append_own_at (P := Tryz.prog) w base st ty e i0 _ K B E.und hi hz0 hz1 hz2 hzl E.pos v n _ hown ad m c ys hm hA.src hy1 hn hbytes hbase
    obtain ⟨a, cap, rfl, _⟩ := row_any h2
    exact ⟨a, cap, w', hr, h2, h3, h5⟩
theorem wpList_append_many {w : World} {st e : TypeId} {K B : Nat} (E : Ew st e K B) {ops : Array Oper} {rest : List Oper} {o : Oper} {a : Act} {Q : Exit → Act → World → Prop} (hgd : o.guard = none) (s x : Operand)
    (ho : o.op = .call { callee := .builtin .append, args := #[s, x], argTypes := #[st, st] })
    (base : Nat) (v : Value) (n : Nat) (xs : List Value) (hs : a.eval s = v) (hown : w.ownsRow base e K v n xs) (A : Option Addr) (m c : Nat) (ys : List Value) (hx : a.eval x = .slice A m c) (hy1 : ∀ u ∈ ys, u.oneCell' = true) (hm : ys.length = m * K) (hA : At w A ys) (hnil : A = none → m = 0 ∧ c = 0)
    (hbytes : (n + m) * B ≤ 140737488355328) (hB : 0 < B) (hbase : base ≤ w.heap.size)
    (h : ∀ a2 cap w', w'.ownsRow base e K (.slice a2 (n + m) cap) (n + m) (xs ++ ys) → w.grownBy w' v.ownBlock → ((Value.slice a2 (n + m) cap).ownBlock = v.ownBlock ∨ (Value.slice a2 (n + m) cap).ownBlock = some w.heap.size) → wpList Tryz.prog ops Q rest (a.put o.dst (.slice a2 (n + m) cap)) w') : wpList Tryz.prog ops Q (o :: rest) a w := by
  obtain ⟨a2, cap, w', hr, h2, h3, h4⟩ := run_append_many E o.type base v n xs hown A m c ys hy1 hm hA hnil hbytes hB hbase
  exact wpList_plain hgd fun _ hK => Lib.wp_append_run w s x st st ho v _ hs hx _ _ hr (hK _ _ (h a2 cap w' h2 h3 h4))
theorem step_append_many {w : World} {st e : TypeId} {K B : Nat} (E : Ew st e K B) {ops : Array Oper} {o : Oper} {a : Act} {R : Act → World → Prop} {Q : Exit → Act → World → Prop} {F : Prop} (hgd : o.guard = none) (s x : Operand)
    (ho : o.op = .call { callee := .builtin .append, args := #[s, x], argTypes := #[st, st] })
    (base : Nat) (v : Value) (n : Nat) (xs : List Value) (hs : a.eval s = v) (hown : w.ownsRow base e K v n xs) (A : Option Addr) (m c : Nat) (ys : List Value) (hx : a.eval x = .slice A m c) (hy1 : ∀ u ∈ ys, u.oneCell' = true) (hm : ys.length = m * K) (hA : At w A ys) (hnil : A = none → m = 0 ∧ c = 0)
    (hbytes : (n + m) * B ≤ 140737488355328) (hB : 0 < B) (hbase : base ≤ w.heap.size)
    (h : ∀ a2 cap w', w'.ownsRow base e K (.slice a2 (n + m) cap) (n + m) (xs ++ ys) → w.grownBy w' v.ownBlock → ((Value.slice a2 (n + m) cap).ownBlock = v.ownBlock ∨ (Value.slice a2 (n + m) cap).ownBlock = some w.heap.size) → R (a.put o.dst (.slice a2 (n + m) cap)) w') :
    if Region.wanted o (yielded ops a.tmps) = true then Oper.wp Tryz.prog o a w R Q else F := by
  have hw : Region.wanted o (yielded ops a.tmps) = true := by simp [Region.wanted, hgd]
  rw [if_pos hw]
  obtain ⟨a2, cap, w', hr, h2, h3, h4⟩ := run_append_many E o.type base v n xs hown A m c ys hy1 hm hA hnil hbytes hB hbase
  exact Lib.wp_append_run w s x st st ho v _ hs hx _ _ hr (h a2 cap w' h2 h3 h4)
theorem RowR.at {w : World} {a : Option Addr} {A : List Ru} (h : RowR w a A) : At w a (flatR A) := fun j v hj => by
  have hn : A ≠ [] := fun hc => by rw [hc] at hj; cases hj
  obtain ⟨b, o, cs, T, f, h1, h2, h3⟩ := h.2 hn
  exact ⟨b, o, h1, cell_of h2 (h3 _ _ hj)⟩
theorem RowR.nil (w : World) (a : Option Addr) : RowR w a [] := ⟨fun r hr => (by cases hr), fun h => absurd rfl h⟩
/-- A row that lies behind a given place. -/
def FarR (B : Nat) (a : Option Addr) (L : List Ru) : Prop := ∀ ad, a = some ad → L ≠ [] → B ≤ ad.block
end Go.Proofs.YtnadendhboiliaaGreat
