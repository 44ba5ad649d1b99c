/-
  Rows of entries (a prefix and a number) in memory; the CONTRACT of the law's find, over this seat's translation.
  Conditions: the row lies in memory.
  CONTRACT of the law's walk, over this seat's translation: the listed prefixes that hold an address, by their lengths.
  Conditions: the row lies in memory.
-/
import Derived.Test.YtnbohhiooigmbaaEq
import Derived.Test.YtnbohhiooigmbaaMm
import Derived.Test.YtnbohhiooigmbaaCb
import Derived.Test.YtnbohhiooigmbaaCh
namespace Go.Proofs.Ytnbohhiooigmbaa
open Go.ChangeShapes Go.WideShapes Go.ChangeAt Go.RowKit
set_option linter.unusedVariables false

/-- The cells of an entry, and of a list of entries. -/
def ent19 (e : Px × Value) : List Value := pfx e.1.b e.1.xs e.1.n ++ [e.2]
def flatE (L : List (Px × Value)) : List Value := L.flatMap ent19
/-- Entries: their prefixes have sixteen bytes, their values are numbers. -/
def okE (e : Px × Value) : Prop := Bytes e.1.xs ∧ ∃ z : Int, e.2 = .int .i64 z
theorem ent19_length {e : Px × Value} (h : okE e) : (ent19 e).length = 19 := by
  unfold ent19
  rw [List.length_append, pfx_length h.1.1]; rfl
theorem ent19_one {e : Px × Value} (h : okE e) : ∀ u ∈ ent19 e, u.oneCell' = true := by
  intro u hu
  obtain ⟨-, z, hz⟩ := h
  rcases List.mem_append.1 hu with hu | hu
  · exact pfx_one _ _ _ u hu
  · rw [List.mem_singleton.1 hu, hz]; rfl
theorem flatE_append (A B : List (Px × Value)) : flatE (A ++ B) = flatE A ++ flatE B := List.flatMap_append
theorem flatE_length {L : List (Px × Value)} (h : ∀ e ∈ L, okE e) : (flatE L).length = L.length * 19 := by
  induction L with
  | nil => rfl
  | cons q L ih =>
    rw [flatE, List.flatMap_cons, List.length_append, ent19_length (h q List.mem_cons_self), List.length_cons]
    have := ih fun q hq => h q (List.mem_cons_of_mem _ hq)
    unfold flatE at this
    omega
/-- A row of entries in memory. -/
def RowE (w : World) (a : Option Addr) (A : List (Px × Value)) : Prop := (∀ e ∈ A, okE e) ∧ (A ≠ [] → ∃ b o cs T f, a = some ⟨b, o, none⟩ ∧ w.heap[b]? = some (.cells cs T f) ∧ ∀ (j : Nat) v, (flatE A)[j]? = some v → cs[o + j]? = some v)
theorem RowE.no {w w' : World} {a : Option Addr} {A : List (Px × Value)} (h : RowE w a A) (hf : Fr No w w') : RowE w' a A :=
  ⟨h.1, fun hn => by obtain ⟨b, o, cs, T, f, h1, h2, h3⟩ := h.2 hn; exact ⟨b, o, cs, T, f, h1, hf.keep h2, h3⟩⟩
theorem flatE_get {A : List (Px × Value)} (hb : ∀ e ∈ A, okE e) {i : Nat} {q : Px × Value} (h : A[i]? = some q) {j : Nat} {v : Value} (hv : (ent19 q)[j]? = some v) : (flatE A)[i * 19 + j]? = some v := by
  have hlt := (List.getElem?_eq_some_iff.1 h).1
  have hA : A = A.take i ++ q :: A.drop (i + 1) := by
    rw [← (List.getElem?_eq_some_iff.1 h).2, ← List.drop_eq_getElem_cons hlt, List.take_append_drop]
  have hl : (flatE (A.take i)).length = i * 19 := by rw [flatE_length fun x hx => hb x (List.mem_of_mem_take hx), List.length_take]; congr 1; omega
  rw [hA, flatE_append, List.getElem?_append_right (by omega), hl, show i * 19 + j - i * 19 = j by omega, flatE, List.flatMap_cons, List.getElem?_append_left (List.getElem?_eq_some_iff.1 hv).1]
  exact hv
/-- An element: its block and offset; whole, its prefix, its number. -/
theorem RowE.at {w : World} {a : Option Addr} {A : List (Px × Value)} (h : RowE w a A) {i : Nat} {q : Px × Value} (hq : A[i]? = some q) : ∃ b o, a = some ⟨b, o, none⟩ ∧ ∀ (P : Program) (w' : World), Fr No w w' → Sem.run P (loadCellsFrom ⟨b, o + i * 19, none⟩ 0 19 #[]) w' = .ok (ent19 q).toArray w' ∧ Sem.run P (loadCellsFrom ⟨b, o + i * 19, none⟩ 0 18 #[]) w' = .ok (pfx q.1.b q.1.xs q.1.n).toArray w' ∧ w'.cell? ⟨b, o + i * 19 + 17, none⟩ = some (.int .i64 q.1.n) ∧ w'.cell? ⟨b, o + i * 19 + 18, none⟩ = some q.2 := by
  have hn : A ≠ [] := fun hc => by rw [hc] at hq; cases hq
  have hok := h.1 q (List.mem_of_getElem? hq)
  obtain ⟨b, o, cs, T, f, h1, h2, h3⟩ := h.2 hn
  have hp : (pfx q.1.b q.1.xs q.1.n).length = 18 := pfx_length hok.1.1
  have hg : ∀ (j : Nat) (v : Value), (ent19 q)[j]? = some v → cs[o + i * 19 + j]? = some v := fun j v hv => by
    rw [Nat.add_assoc]
    exact h3 _ _ (flatE_get h.1 hq hv)
  have hl : ∀ (j : Nat) (v : Value), (pfx q.1.b q.1.xs q.1.n)[j]? = some v → (ent19 q)[j]? = some v := fun j v hv => by
    unfold ent19
    rw [List.getElem?_append_left (List.getElem?_eq_some_iff.1 hv).1]; exact hv
  refine ⟨b, o, h1, fun P w' hf => ⟨?_, ?_, ?_, ?_⟩⟩
  · refine load_block (hf.keep h2) (by rw [List.size_toArray]; exact ent19_length hok) fun j v hv => hg j v ?_
    rw [List.getElem?_toArray] at hv; exact hv
  · refine load_block (hf.keep h2) (by rw [List.size_toArray]; exact hp) fun j v hv => hg j v (hl j v ?_)
    rw [List.getElem?_toArray] at hv; exact hv
  · rw [cell_of_row _ _ _ _ _ _ (hf.keep h2)]
    refine hg 17 _ (hl 17 _ ?_)
    unfold pfx
    rw [List.getElem?_append_right (by rw [adr_length, hok.1.1]; decide), adr_length, hok.1.1]; rfl
  · rw [cell_of_row _ _ _ _ _ _ (hf.keep h2)]
    refine hg 18 _ ?_
    unfold ent19
    rw [List.getElem?_append_right (by omega), hp]; rfl
theorem RowE.own {w : World} {base n cap : Nat} {a : Option Addr} {A : List (Px × Value)} (hb : ∀ e ∈ A, okE e) (h : w.ownsRow base 37 19 (.slice a n cap) n (flatE A)) : RowE w a A ∧ A.length = n := by
  have hl := h.1
  rw [flatE_length hb] at hl
  refine ⟨⟨hb, fun hn => ?_⟩, by omega⟩
  rcases h.2 with ⟨hv, h0⟩ | ⟨g, cap', cur, hv, _, hg, _, _, _, ht⟩
  · cases hv
    exact absurd (List.length_eq_zero_iff.1 (by omega)) hn
  · cases hv
    refine ⟨g, 0, cur, 37, (0, 0), rfl, hg, fun j v hj => ?_⟩
    rw [← ht, List.getElem?_take] at hj
    split at hj
    · rw [Nat.zero_add, ← Array.getElem?_toList]; exact hj
    · cases hj
/-- Where a prefix stands in a list. -/
def findX (p : Px) (L : List (Px × Value)) : Int := match L.findIdx? fun e => decide (e.1 = p) with
  | some i => (i : Int)
  | none => -1

set_option maxHeartbeats 4000000 in
set_option maxRecDepth 100000 in
theorem find_any (a : Option Addr) (n c : Nat) (L : List (Px × Value)) (p : Px) (w : World) (hr : RowE w a L) (hL : L.length = n) (hn : n ≤ 100000) (hp : Bytes p.xs) :
    Calls Try.prog 10 #[.slice a n c, .agg (pfx p.b p.xs p.n).toArray] w fun e w' => e = .returned (.int .i64 (findX p L)) ∧ Fr No w w' := by
  obtain ⟨P, hP, -, -, hPs, -, hP1⟩ := pfx_letter p.b p.xs p.n hp
  have HX := Lib.hid (And.intro hr (And.intro hL (And.intro hP hp)))
  rw [hP]
  clear hr hL hP hp hP1
  have q31 := Try.eqGuardType31
  go_enter Try.func10, Try.ntmps10
  have t3 := Try.underlying3
  have u3 := Try.runUnderlying3
  have g3 := Try.isAgg3
  have z3 := Try.sizeOf3
  have t4 := Try.underlying4
  have u4 := Try.runUnderlying4
  have g4 := Try.isAgg4
  have z4 := Try.sizeOf4
  have t26 := Try.underlying26
  have u26 := Try.runUnderlying26
  have g26 := Try.isAgg26
  have z26 := Try.sizeOf26
  have t29 := Try.underlying29
  have u29 := Try.runUnderlying29
  have g29 := Try.isAgg29
  have z29 := Try.sizeOf29
  have t31 := Try.underlying31
  have u31 := Try.runUnderlying31
  have g31 := Try.isAgg31
  have z31 := Try.sizeOf31
  have t37 := Try.underlying37
  have u37 := Try.runUnderlying37
  have g37 := Try.isAgg37
  have z37 := Try.sizeOf37
  have mixed : Try.prog.follows .mixedOrders = true := by kernel_rfl
  obtain ⟨k40, hk40⟩ : ∃ k, k = 18 := ⟨_, rfl⟩
  rw [← hk40] at z31
  have nk40 : ¬ k40 = 0 := by omega
  have HK31 := Lib.hid hk40
  obtain ⟨k19, hk19⟩ : ∃ k, k = 19 := ⟨_, rfl⟩
  rw [← hk19] at z37
  have nk19 : ¬ k19 = 0 := by omega
  have HK37 := Lib.hid hk19
  have hP : Try.prog = PD := rfl
  rw [hP] at t3 u3 g3 z3 t4 u4 g4 z4 t26 u26 g26 z26 t29 u29 g29 z29 t31 u31 g31 z31 t37 u37 g37 z37 mixed q31 ⊢
  have HP := Lib.hid hP.symm
  clear hP hk40 hk19
  have hPk : P.size = k40 := by rw [HK31.out]; exact hPs
  clear hPs
  go_wp2_with fail
  go_loopg [5] (n + 1) (fun g s wr => ∃ (i : Nat), s = .int .i64 i ∧ i ≤ n ∧ n - i < g ∧ Hid (Fr No (w.alloc (.cells P 31)) wr ∧ ∀ (j : Nat) (e : Px × Value), j < i → L[j]? = some e → e.1 ≠ p))
  case atStart => exact ⟨0, by go_num, by omega, by omega, Fr.refl _ _, fun j e hj => by omega⟩
  case round =>
    obtain ⟨i, rfl, hin, hig, HR⟩ := hrel
    by_cases hi : i < n
    · obtain ⟨x, gx⟩ : ∃ x, L[i]? = some x := ⟨_, List.getElem?_eq_getElem (by rw [HX.out.2.1]; exact hi)⟩
      obtain ⟨bx, ox, rfl, lx⟩ := HX.out.1.at gx
      have F1 : Fr No w wr := (Fr.alloc No w _).trans HR.out.1
      have hbx := (HX.out.1.1 x (List.mem_of_getElem? gx)).1
      obtain ⟨X, hX⟩ : ∃ X, (pfx x.1.b x.1.xs x.1.n).toArray = X := ⟨_, rfl⟩
      have lX : ∀ m, Sem.run PD (loadCellsFrom ⟨bx, ox + i * k19, none⟩ 0 k40 #[]) (wr.drewN m) = .ok X (wr.drewN m) := fun m => by
        rw [HK31.out, HK37.out, ← hX]; exact (lx PD _ (F1.trans (Fr.drewN No wr m))).2.1
      have lP : ∀ m, Sem.run PD (loadCellsFrom ⟨w.heap.size, 0, none⟩ 0 k40 #[]) (wr.drewN m) = .ok P (wr.drewN m) := fun m => load_block ((HR.out.1.trans (Fr.drewN No wr m)).keep (heap_alloc_new w _)) hPk (fun j v hv => by simpa using hv)
      have hEQ : ∀ w', Sem.run PD (Op.equalIn 10000 31 (.agg X) (.agg P)) w' = .ok (decide (x.1 = p)) w' := fun w' => by
        rw [HP.out, ← hX, ← HX.out.2.2.1, pfx_eq x.1.n p.n hbx HX.out.2.2.2 w']
        congr 1
        exact decide_eq_decide.2 Px.eq_iff
      have HG := Lib.hid gx
      have p1 : (0 : Int) ≤ (i : Int) := by omega
      have p2 : (i : Int) < (n : Int) := by omega
      clear gx lx hbx hX F1
      by_cases hxp : x.1 = p
      · rw [decide_eq_true hxp] at hEQ
        have HF : Hid (findX p L = (i : Int)) := by
          have : L.findIdx? (fun e => decide (e.1 = p)) = some i := by
            rw [List.findIdx?_eq_some_iff_getElem]
            have hlt := (List.getElem?_eq_some_iff.1 HG.out).1
            refine ⟨hlt, by rw [(List.getElem?_eq_some_iff.1 HG.out).2, hxp]; simp, fun j hj => ?_⟩
            have := HR.out.2 j _ hj (List.getElem?_eq_getElem (by omega))
            simpa using this
          show findX p L = (i : Int)
          unfold findX
          rw [this]
        go_wp2_with fail
        go_quiet (fail)
        go_wp2_with fail
        go_ret
        exact ⟨by rw [HF.out]; rfl, ((Fr.alloc No w _).trans HR.out.1).trans (Fr.drewN No wr _)⟩
      · rw [decide_eq_false hxp] at hEQ
        go_wp2_with fail
        go_quiet (fail)
        go_wp2_with fail
        go_roundg (n - i)
        case measure => exact hig
        case rel =>
          refine ⟨i + 1, by go_num, by omega, by omega, HR.out.1.trans (Fr.drewN No wr _), fun j e hj he => ?_⟩
          by_cases hji : j = i
          · subst hji; rw [HG.out] at he; cases he; exact hxp
          · exact HR.out.2 j e (by omega) he
    · obtain rfl : i = n := by omega
      have p2 : ¬ ((i : Int) < (i : Int)) := by omega
      have HF : Hid (findX p L = -1) := by
        have : L.findIdx? (fun e => decide (e.1 = p)) = none := by
          rw [List.findIdx?_eq_none_iff]
          intro e he
          obtain ⟨j, hj⟩ := List.mem_iff_getElem?.1 he
          have hlt := (List.getElem?_eq_some_iff.1 hj).1
          have := HR.out.2 j e (by rw [← HX.out.2.1]; exact hlt) hj
          simpa using this
        show findX p L = -1
        unfold findX
        rw [this]
      go_wp2_with fail
      go_ret
      exact ⟨by rw [HF.out]; rfl, (Fr.alloc No w _).trans HR.out.1⟩
end Go.Proofs.Ytnbohhiooigmbaa
namespace Go.Proofs.Ytnbohhiooigmbaa
open Go.ChangeShapes Go.WideShapes Go.ChangeAt Go.RowKit
set_option linter.unusedVariables false

/-- Those of one length; those of all lengths below k. -/
def lenL (L : List (Px × Value)) (c : Bool) (ys : List Nat) (k : Nat) : List Px := (L.filter fun e => decide (e.1.n = (k : Int)) && has e.1 c ys).map (·.1)
def lensL (L : List (Px × Value)) (c : Bool) (ys : List Nat) (k : Nat) : List Px := (List.range k).flatMap (lenL L c ys)
theorem lensL_step (L : List (Px × Value)) (c : Bool) (ys : List Nat) (k : Nat) : lensL L c ys (k + 1) = lensL L c ys k ++ lenL L c ys k := by
  unfold lensL
  rw [List.range_succ, List.flatMap_append]; simp
theorem lenL_take (L : List (Px × Value)) (c : Bool) (ys : List Nat) (k i : Nat) {x : Px × Value} (h : L[i]? = some x) : lenL (L.take (i + 1)) c ys k = lenL (L.take i) c ys k ++ if (decide (x.1.n = (k : Int)) && has x.1 c ys) = true then [x.1] else [] := by
  unfold lenL
  rw [List.take_add_one, h, List.filter_append, List.map_append]
  congr 1
  simp only [Option.toList]
  rw [List.filter_cons]
  split <;> simp_all
/-- By length is in order. -/
theorem lensL_below {L : List (Px × Value)} {c : Bool} {ys : List Nat} (hg : (L.filter fun e => has e.1 c ys).Pairwise fun a b => a.1.n < b.1.n) (h0 : ∀ e ∈ L, 0 ≤ e.1.n) : ∀ k : Nat, lensL L c ys k = ((L.filter fun e => has e.1 c ys).filter fun e => decide (e.1.n < (k : Int))).map (·.1)
  | 0 => by
    unfold lensL
    rw [List.filter_eq_nil_iff.2 fun e he => by
      have := h0 e (List.mem_filter.1 he).1
      simp; omega]
    rfl
  | k + 1 => by
    rw [lensL_step, lensL_below hg h0 k]
    unfold lenL
    rw [← List.map_append]
    congr 1
    rw [show (L.filter fun e => decide (e.1.n = (k : Int)) && has e.1 c ys) = (L.filter fun e => has e.1 c ys).filter fun e => decide (e.1.n = (k : Int)) by rw [List.filter_filter]]
    generalize (L.filter fun e => has e.1 c ys) = M at hg
    induction M with
    | nil => rfl
    | cons a M ih =>
      obtain ⟨ha, hM⟩ := List.pairwise_cons.1 hg
      have ih' := ih hM
      by_cases h1 : a.1.n < (k : Int)
      · rw [List.filter_cons_of_pos (by simpa using h1), List.filter_cons_of_neg (by simp; omega), List.filter_cons_of_pos (by simp; omega), List.cons_append, ih']
      · rw [List.filter_cons_of_neg (by simpa using h1)]
        have hno : M.filter (fun e => decide (e.1.n < (k : Int))) = [] := List.filter_eq_nil_iff.2 fun e he => by have := ha e he; simp; omega
        rw [hno, List.nil_append] at ih' ⊢
        by_cases h2 : a.1.n = (k : Int)
        · rw [List.filter_cons_of_pos (by simpa using h2), List.filter_cons_of_pos (by simp; omega), ih']
        · rw [List.filter_cons_of_neg (by simpa using h2), List.filter_cons_of_neg (by simp; omega), ih']
theorem lensL_all {L : List (Px × Value)} (hs : Srt L) (hok : ∀ e ∈ L, okP e.1) (c : Bool) (ys : List Nat) : lensL L c ys 129 = (inL L c ys).map (·.1) := by
  rw [lensL_below (has_grow hs hok) fun e he => (hok e he).parts.2.1]
  unfold inL
  congr 1
  exact List.filter_eq_self.2 fun e he => by
    have := ok_le (hok e (List.mem_filter.1 he).1)
    simp; omega

set_option maxHeartbeats 8000000 in
set_option maxRecDepth 100000 in
theorem walk_any (a : Option Addr) (n c : Nat) (L : List (Px × Value)) (cf : Bool) (ys : List Nat) (w : World) (hr : RowE w a L) (hL : L.length = n) (hn : n ≤ 100) (hy : Bytes ys) :
    Calls Try.prog 43 #[.slice a n c, .agg (adr cf ys).toArray] w fun e w' => ∃ ad m cp, e = .returned (.slice ad m cp) ∧ w'.ownsRow w.heap.size 31 18 (.slice ad m cp) m (flatP (lensL L cf ys 129)) ∧ Fr No w w' := by
  obtain ⟨Y, hY, -, hYs, -⟩ := adr_letter cf ys hy
  obtain ⟨Z, hZ⟩ : ∃ Z : Array Value, noP.toArray = Z := ⟨_, rfl⟩
  have v31 := zero31
  rw [hZ] at v31
  have hZs : Z.size = 18 := by rw [← hZ]; rfl
  have HX := Lib.hid (And.intro hr (And.intro hL (And.intro hY hy)))
  rw [hY]
  clear hr hL hY hy hZ
  go_enter Try.func43, Try.ntmps43
  have t3 := Try.underlying3
  have u3 := Try.runUnderlying3
  have g3 := Try.isAgg3
  have z3 := Try.sizeOf3
  have t4 := Try.underlying4
  have u4 := Try.runUnderlying4
  have g4 := Try.isAgg4
  have z4 := Try.sizeOf4
  have t26 := Try.underlying26
  have u26 := Try.runUnderlying26
  have g26 := Try.isAgg26
  have z26 := Try.sizeOf26
  have t29 := Try.underlying29
  have u29 := Try.runUnderlying29
  have g29 := Try.isAgg29
  have z29 := Try.sizeOf29
  have t31 := Try.underlying31
  have u31 := Try.runUnderlying31
  have g31 := Try.isAgg31
  have z31 := Try.sizeOf31
  have t37 := Try.underlying37
  have u37 := Try.runUnderlying37
  have g37 := Try.isAgg37
  have z37 := Try.sizeOf37
  have t47 := Try.underlying47
  have u47 := Try.runUnderlying47
  have g47 := Try.isAgg47
  have z47 := Try.sizeOf47
  have c24 := Try.call24
  have mixed : Try.prog.follows .mixedOrders = true := by kernel_rfl
  obtain ⟨k30, hk30⟩ : ∃ k, k = 17 := ⟨_, rfl⟩
  rw [← hk30] at z29
  have nk30 : ¬ k30 = 0 := by omega
  have HK29 := Lib.hid hk30
  obtain ⟨k40, hk40⟩ : ∃ k, k = 18 := ⟨_, rfl⟩
  rw [← hk40] at z31
  have nk40 : ¬ k40 = 0 := by omega
  have HK31 := Lib.hid hk40
  obtain ⟨k19, hk19⟩ : ∃ k, k = 19 := ⟨_, rfl⟩
  rw [← hk19] at z37
  have nk19 : ¬ k19 = 0 := by omega
  have HK37 := Lib.hid hk19
  have hP : Try.prog = PD := rfl
  rw [hP] at t3 u3 g3 z3 t4 u4 g4 z4 t26 u26 g26 z26 t29 u29 g29 z29 t31 u31 g31 z31 t37 u37 g37 z37 t47 u47 g47 z47 c24 mixed v31 ⊢
  have HP := Lib.hid hP.symm
  clear hP hk30 hk40 hk19
  have hYk : Y.size = k30 := by rw [HK29.out]; exact hYs
  have hZk : Z.size = k40 := by rw [HK31.out]; exact hZs
  have hkb : ¬ 16777216 < k40 := by rw [HK31.out]; decide
  clear hYs hZs
  obtain ⟨w1, hw1⟩ : ∃ w1, w.alloc (.cells Y 29) = w1 := ⟨_, rfl⟩
  have H1 : Hid (Fr No w w1 ∧ w1.heap[w.heap.size]? = some (.cells Y 29 (0, 0))) := ⟨by rw [← hw1]; exact Fr.alloc No w _, by rw [← hw1]; exact heap_alloc_new w _⟩
  obtain ⟨bx, hbx⟩ : ∃ bx, w.heap.size = bx := ⟨_, rfl⟩
  have HBX := Lib.hid hbx
  go_wp2_with fail
  clear hw1 hbx
  go_loopg [5, 6] 131 (fun g s5 s6 wr => ∃ (k m cp : Nat) (ad : Option Addr), s5 = .slice ad m cp ∧ s6 = .int .i64 k ∧ k ≤ 129 ∧ 130 - k < g ∧ m ≤ k * 100 ∧ Hid (wr.ownsRow w1.heap.size 31 18 (.slice ad m cp) m (flatP (lensL L cf ys k)) ∧ Fr No w1 wr))
  case atStart => exact ⟨0, 0, 0, none, by go_num, by go_num, by omega, by omega, by omega, ⟨rfl, .inl ⟨rfl, rfl⟩⟩, Fr.refl _ _⟩
  case round =>
    obtain ⟨k, m0, cp0, ad0, rfl, rfl, hk, hkg, hm0, HO0⟩ := hrel
    by_cases hk1 : k ≤ 128
    · have q1 : (k : Int) ≤ 128 := by omega
      go_wp2_with fail
      go_loopg [5, 7] (n + 1) (fun g s5 s7 wq => ∃ (i m cp : Nat) (ad : Option Addr), s5 = .slice ad m cp ∧ s7 = .int .i64 i ∧ i ≤ n ∧ n - i < g ∧ m ≤ k * 100 + i ∧ Hid (wq.ownsRow w1.heap.size 31 18 (.slice ad m cp) m (flatP (lensL L cf ys k ++ lenL (L.take i) cf ys k)) ∧ Fr No w1 wq))
      case atStart => exact ⟨0, m0, cp0, ad0, by go_num, by go_num, by omega, by omega, by omega, by rw [List.take_zero, show lenL [] cf ys k = [] from rfl, List.append_nil]; exact HO0.out.1, HO0.out.2⟩
      case round =>
        obtain ⟨i, m, cp, ad, rfl, rfl, hin, hig, hm, HO⟩ := hrel
        by_cases hi : i < n
        · obtain ⟨x, gx⟩ : ∃ x, L[i]? = some x := ⟨_, List.getElem?_eq_getElem (by rw [HX.out.2.1]; exact hi)⟩
          obtain ⟨ba, oa, rfl, lx⟩ := HX.out.1.at gx
          have hbx := (HX.out.1.1 x (List.mem_of_getElem? gx)).1
          obtain ⟨X, hX, -, -, hXs, -, hX1⟩ := pfx_letter x.1.b x.1.xs x.1.n hbx
          have hXk : X.size = k40 := by rw [HK31.out]; exact hXs
          have HS : Hid (∀ w', Fr No w1 w' → Fr No w1 w' ∧ w'.cell? ⟨ba, oa + i * k19 + 17, none⟩ = some (.int .i64 x.1.n) ∧ Sem.run PD (loadCellsFrom ⟨ba, oa + i * k19, none⟩ 0 k40 #[]) w' = .ok X w' ∧ Sem.run PD (loadCellsFrom ⟨bx, 0, none⟩ 0 k30 #[]) w' = .ok Y w') := fun w' hf => by
            have h := lx PD w' (H1.out.1.trans hf)
            rw [HK37.out, HK31.out, ← hX]
            exact ⟨hf, h.2.2.1, h.2.1, load_block (hf.keep (by have h1 := H1.out.2; rw [HBX.out] at h1; exact h1)) hYk (fun j v hv => by simpa using hv)⟩
          have HST := lenL_take L cf ys k i gx
          replace HST := Lib.hid HST
          obtain ⟨xn, hxn⟩ : ∃ xn, x.1.n = xn := ⟨_, rfl⟩
          have HCT : Hid (∀ w', Calls Try.prog 24 #[.agg X, .agg Y] w' fun e w'' => e = .returned (.bool (has x.1 cf ys)) ∧ Fr No w' w'') := fun w' => by
            have h := cont_ref x.1.b cf x.1.xs ys x.1.n hbx HX.out.2.2.2 w'
            rw [hX, HX.out.2.2.1] at h
            exact h
          have HXX := Lib.hid (And.intro hX (And.intro hXs (And.intro hX1 hbx)))
          have p1 : (0 : Int) ≤ (i : Int) := by omega
          have p2 : (i : Int) < (n : Int) := by omega
          rw [hxn] at HS HST
          clear gx lx hbx hX hXs hX1
          go_wp2_with fail
          by_cases hxk : xn = (k : Int)
          · subst hxk
            have hfK : Array.foldl (fun (cs : Array Value) (x : Value × Nat) => cs.setIfInBounds x.snd x.fst) (Array.map (fun x => Z[x % k40]!) (Array.range k40)) X.zipIdx 0 k40 = X := fold_set _ _ (by simp) hXk
            cases hh : has x.1 cf ys
            · rw [hh] at HCT HST
              have f1 := HS.out _ (HO.out.2.trans (Fr.drew No _))
              go_region_held3 (fun w' => Fr No w1 w' ∧ w'.cell? ⟨ba, oa + i * k19 + 17, none⟩ = some (.int .i64 (k : Int)) ∧ Sem.run PD (loadCellsFrom ⟨ba, oa + i * k19, none⟩ 0 k40 #[]) w' = .ok X w' ∧ Sem.run PD (loadCellsFrom ⟨bx, 0, none⟩ 0 k30 #[]) w' = .ok Y w') (first | assumption | (with_reducible exact HS.out _ K3)) (first | (go_at_call 24; ((with_reducible refine (at_prog HP.out (HCT.out _)).mono ?_); rintro e w3 ⟨rfl, hf3⟩; have K3 : Fr No w1 w3 := Fr.trans (And.left (by assumption)) hf3)))
              go_wp2_with fail
              go_roundg (n - i)
              case measure => exact hig
              case rel =>
                refine ⟨i + 1, m, cp, ad, by go_num, by go_num, by omega, by omega, by omega, ?_, K3⟩
                rw [HST.out, if_neg (by simp), List.append_nil]
                exact row_frNo HO.out.1 ((Fr.drew No _).trans hf3)
            · rw [hh] at HCT HST
              have f1 := HS.out _ (HO.out.2.trans (Fr.drew No _))
              go_region_held3 (fun w' => Fr No w1 w' ∧ w'.cell? ⟨ba, oa + i * k19 + 17, none⟩ = some (.int .i64 (k : Int)) ∧ Sem.run PD (loadCellsFrom ⟨ba, oa + i * k19, none⟩ 0 k40 #[]) w' = .ok X w' ∧ Sem.run PD (loadCellsFrom ⟨bx, 0, none⟩ 0 k30 #[]) w' = .ok Y w') (first | assumption | (with_reducible exact HS.out _ K3)) (first | (go_at_call 24; ((with_reducible refine (at_prog HP.out (HCT.out _)).mono ?_); rintro e w3 ⟨rfl, hf3⟩; have K3 : Fr No w1 w3 := Fr.trans (And.left (by assumption)) hf3)))
              obtain ⟨-, -, lX3, -⟩ := HS.out _ K3
              have HR3 : Hid (∀ w', Fr No w3 w' → w'.ownsRow w1.heap.size 31 18 (.slice ad m cp) m (flatP (lensL L cf ys k ++ lenL (L.take i) cf ys k))) := fun w' h => row_frNo HO.out.1 (((Fr.drew No _).trans hf3).trans h)
              go_wp2_with (first | (at_builtin; (refine wpList_append_w ewP rfl (.tmp 35) (.tmp 41) rfl w1.heap.size _ m _ rfl (HR3.out _ (Fr.alloc No _ _)) ⟨w3.heap.size, 0, none⟩ 1 (pfx x.1.b x.1.xs x.1.n) rfl (pfx_one _ _ _) (pfx_length HXX.out.2.2.2.1) (At.block (by rw [HXX.out.1]; exact heap_alloc_new w3 _)) (by omega) (by omega) (Nat.le_trans K3.size (Fr.alloc No w3 _).size) ?_; intro a6 c6 w6 hown6 hg6 hat6; have H6 : Hid (w6.ownsRow w1.heap.size 31 18 (.slice a6 (m + 1) c6) (m + 1) (flatP (lensL L cf ys k ++ lenL (L.take i) cf ys k ++ [x.1])) ∧ Fr No w1 w6) := ⟨by rw [flatP_append (lensL L cf ys k ++ lenL (L.take i) cf ys k)]; simpa [flatP] using hown6, Fr.own_grown_w (K3.trans (Fr.alloc No w3 _)) (HR3.out _ (Fr.alloc No _ _)) (Nat.le_refl _) hg6⟩; clear hown6 hg6 hat6)) | fail)
              go_roundg (n - i)
              case measure => exact hig
              case rel =>
                refine ⟨i + 1, m + 1, c6, a6, by go_num, by go_num, by omega, by omega, by omega, ?_, H6.out.2⟩
                rw [HST.out, if_pos (by simp), ← List.append_assoc]
                exact H6.out.1
          · have hb1 : (xn == (k : Int)) = false := by simpa using hxk
            obtain ⟨-, cX, -, -⟩ := HS.out _ HO.out.2
            go_quiet (fail)
            go_wp2_with fail
            go_roundg (n - i)
            case measure => exact hig
            case rel =>
              refine ⟨i + 1, m, cp, ad, by go_num, by go_num, by omega, by omega, by omega, ?_, HO.out.2.trans (Fr.drewN No _ _)⟩
              rw [HST.out, if_neg (by simp [hxk]), List.append_nil]
              exact row_frNo HO.out.1 (Fr.drewN No _ _)
        · obtain rfl : i = n := by omega
          have p2 : ¬ ((i : Int) < (i : Int)) := by omega
          go_wp2_with fail
          go_roundg (130 - k)
          case measure => exact hkg
          case rel =>
            refine ⟨k + 1, m, cp, ad, by go_num, by go_num, by omega, by omega, by omega, ?_, HO.out.2⟩
            rw [lensL_step]
            have h := HO.out.1
            rw [List.take_of_length_le (by rw [HX.out.2.1]; exact Nat.le_refl _)] at h
            exact h
    · obtain rfl : k = 129 := by omega
      go_wp2_with fail
      go_ret
      exact ⟨ad0, m0, cp0, rfl, row_base_w HO0.out.1 H1.out.1.size, H1.out.1.trans HO0.out.2⟩
end Go.Proofs.Ytnbohhiooigmbaa
