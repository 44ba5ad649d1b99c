/-
  CONTRACT of package acl's MatchAddr, over this seat's translation: the index of the deciding address rule.
  Conditions: the list lies in memory; the argument is an address.
-/
import Derived.Test.YtnadendhboiliaaGreatRh
import Derived.Test.YtnadendhboiliaaGreatRg
namespace Go.Proofs.YtnadendhboiliaaGreat
open Go.ChangeShapes Go.WideShapes Go.ChangeAt Go.RowKit Go.Shelf
set_option linter.unusedVariables false
attribute [local go_sem] Oper.semAt_some

theorem keepsFrom_fr {B : Nat} {W W' : World} (hf : Fr No W W') : KeepsFrom B W W' := ⟨hf.size, fun k o _ hk _ => hf.keep hk⟩
theorem below_fr {n : Nat} {W W' : World} (hf : Fr No W W') (hn : n ≤ W.heap.size) : Below n W W' := ⟨hf.os, hf.tape, hf.output, hf.size, fun k hk => hf.block k (Nat.lt_of_lt_of_le hk hn) (fun h => h)⟩
theorem fr_below {W W' : World} (h : Below W.heap.size W W') : Fr No W W' := Fr.ofBelow h
theorem fr_grown {B rb : Nat} {W0 A C : World} {row : Option Nat} (h : Fr (fun k => k = rb) W0 A) (hg : A.grownBy C row) (hr : ∀ r, row = some r → W0.heap.size ≤ r) : Fr (fun k => k = rb) W0 C :=
  h.ofNew (Fr.grown (S := fun k => row = some k) hg fun k hk => hk) fun k hk => .inr (hr k hk)
theorem alloc4 (w : World) (o1 o2 o3 o4 : Obj) : ((((w.alloc o1).alloc o2).alloc o3).alloc o4).heap[w.heap.size]? = some o1 ∧ ((((w.alloc o1).alloc o2).alloc o3).alloc o4).heap[w.heap.size + 1]? = some o2 ∧ ((((w.alloc o1).alloc o2).alloc o3).alloc o4).heap[w.heap.size + 1 + 1]? = some o3 ∧ ((((w.alloc o1).alloc o2).alloc o3).alloc o4).heap[w.heap.size + 1 + 1 + 1]? = some o4 ∧ Fr No w ((((w.alloc o1).alloc o2).alloc o3).alloc o4) ∧ ((((w.alloc o1).alloc o2).alloc o3).alloc o4).heap.size = w.heap.size + 1 + 1 + 1 + 1 := by
  obtain ⟨h1, h2, h3, h4⟩ := alloc3 w o1 o2 o3
  have hf := Fr.alloc No (((w.alloc o1).alloc o2).alloc o3) o4
  have hn := heap_alloc_new (((w.alloc o1).alloc o2).alloc o3) o4
  have hs : (((w.alloc o1).alloc o2).alloc o3).heap.size = w.heap.size + 1 + 1 + 1 := by simp
  rw [hs] at hn
  exact ⟨hf.keep h1, hf.keep h2, hf.keep h3, hn, h4.trans hf, by simp⟩
theorem wrap64_small {n : Int} (h0 : 0 ≤ n) (h : n < 4611686018427387904) : wrap64 n = n := by
  unfold wrap64
  omega
theorem next_i64 {k : Nat} (h : k < 1000) : Value.int .i64 (wrap64 ((k : Int) + 1)) = .int .i64 ((k + 1 : Nat) : Int) := by
  rw [wrap64_small (by omega) (by omega)]; rfl
/-- No address rule of a prefix applies to the port. -/
def NoA (L : List Ru) (port : Int) (q : Px) : Prop := ∀ i ∈ idx L L.length q, ∀ r, L[i]? = some r → apl r port = false
/-- The first that applies. -/
def FstA (L : List Ru) (port : Int) (q : Px) (i : Nat) : Prop := i ∈ idx L L.length q ∧ (∃ r, L[i]? = some r ∧ apl r port = true) ∧ ∀ j ∈ idx L L.length q, j < i → ∀ r, L[j]? = some r → apl r port = false
def outM (L : List Ru) (port : Int) (rb : Nat) (W0 : World) (c : Code) (pre : List PP) (W : World) : Prop := c = .ret ∧ ∃ (i : Nat) (ini : List PP) (x : PP), pre = ini ++ [x] ∧ (∀ y ∈ ini, NoA L port y.1.2) ∧ FstA L port x.1.2 i ∧ W.heap[rb]? = some (.cells #[.int .i64 i] 3 (0, 0)) ∧ Fr (fun k => k = rb) W0 W
theorem outM_own (L : List Ru) (port : Int) (rb : Nat) (W0 : World) (c : Code) : OwnFrom W0.heap.size (outM L port rb W0 c) := by
  intro s A B row hs hg hr
  obtain ⟨hc, i, ini, x, h1, h2, h3, h4, h5⟩ := hs
  refine ⟨hc, i, ini, x, h1, h2, h3, ?_, fr_grown (B := 0) h5 hg fun r e => (hr r e).1⟩
  refine (hg.block rb (some_lt h4) fun e => ?_).trans h4
  obtain ⟨-, o, ho, hc⟩ := hr rb e.symm
  rw [h4] at ho; cases ho; cases hc
def inM (L : List Ru) (port : Int) (W0 : World) (pre : List PP) (W : World) : Prop := (∀ y ∈ pre, NoA L port y.1.2) ∧ Below W0.heap.size W0 W
theorem inM_own (L : List Ru) (port : Int) (W0 : World) : OwnFrom W0.heap.size (inM L port W0) :=
  OwnFrom.and (ownFrom_pure _ _) (ownFrom_below (Nat.le_refl _) (Nat.le_refl _))
def axM (W0 : World) (f : Nat → PP → Act) (x : PP) (a : Act) (W : World) : Prop := ∃ Bx, W0.heap.size ≤ Bx ∧ W.heap[Bx]? = some (.cells (pfx x.1.2.b x.1.2.xs x.1.2.n).toArray 29 (0, 0)) ∧ a = f Bx x
theorem axM_own (W0 : World) (f : Nat → PP → Act) (x : PP) (a : Act) : OwnFrom W0.heap.size (fun (_ : Unit) W => axM W0 f x a W) := by
  intro s A B row hs hg hr
  obtain ⟨Bx, h1, h2, h3⟩ := hs
  refine ⟨Bx, h1, (hg.block Bx (some_lt h2) fun e => ?_).trans h2, h3⟩
  obtain ⟨-, o, ho, hc⟩ := hr Bx e.symm
  rw [h2] at ho; cases ho; cases hc

theorem upto_get (L : List Px) (hL : ∀ q ∈ L, Bytes q.xs) {b : Nat} {q : Px} (h : L[b]? = some q) {k : Nat} (hk : L.length - 1 - b < k) : ∃ y ∈ upto L hL k, y.1.2 = q := by
  have hb := (List.getElem?_eq_some_iff.1 h).1
  refine ⟨dn L hL (L.length - 1 - b), List.mem_map.2 ⟨_, List.mem_range.2 hk, rfl⟩, ?_⟩
  show (L[L.length - 1 - (L.length - 1 - b)]?).getD zQ = q
  rw [show L.length - 1 - (L.length - 1 - b) = b by omega, h]
  rfl
/-- What decides has come. -/
theorem mt_in {n0 : Nat} {w : World} {x : Nat} {L : List Ru} {tb : Nat} {ra : Option Addr} {rc : Nat} {T : List (Px × Value)} {X : Nat → Prop} (h : Inc n0 w x L L.length tb ra rc T X) {c : Bool} {ys : List Nat} {port : Int} {j : Nat} {q : Ru} (hq : L[j]? = some q) (hm : mtA c ys port q = true) : apl q port = true ∧ q.sf = [] ∧ has q.p c ys = true ∧ j ∈ idx L L.length q.p ∧ ∃ b : Nat, ((inL T c ys).map fun e => e.1)[b]? = some q.p := by
  unfold mtA at hm
  rw [Bool.and_eq_true, Bool.and_eq_true, decide_eq_true_iff] at hm
  obtain ⟨⟨h1, h2⟩, h3⟩ := hm
  have hi : j ∈ idx L L.length q.p := idx_mem.2 ⟨(List.getElem?_eq_some_iff.1 hq).1, q, hq, h1, rfl⟩
  obtain ⟨v, hv⟩ := h.vals.key q.p (fun hc => by rw [hc] at hi; cases hi)
  refine ⟨h2, h1, h3, hi, List.getElem?_of_mem (List.mem_map.2 ⟨(q.p, v), List.mem_filter.2 ⟨hv, h3⟩, rfl⟩)⟩
theorem done_best {n0 : Nat} {w : World} {x : Nat} {L : List Ru} {tb : Nat} {ra : Option Addr} {rc : Nat} {T : List (Px × Value)} {X : Nat → Prop} (h : Inc n0 w x L L.length tb ra rc T X) {c : Bool} {ys : List Nat} {port : Int} {KY : List Px} (hK : ((inL T c ys).map fun e => e.1) = KY) (hb : ∀ q ∈ KY, Bytes q.xs) {N : Nat} (hN : KY.length = N) (hno : ∀ y ∈ upto KY hb N, NoA L port y.1.2) : (-1 : Int) = bV (mtA c ys port) kA L := by
  refine bV_of (.inl ⟨rfl, fun j q hj hq => ?_⟩)
  cases hm : mtA c ys port q with
  | false => rfl
  | true =>
    obtain ⟨h1, h2, h3, h4, b, h5⟩ := mt_in h hq hm
    rw [hK] at h5
    obtain ⟨y, hy, he⟩ := upto_get KY hb h5 (k := N) (by have := (List.getElem?_eq_some_iff.1 h5).1; omega)
    have := hno y hy j (by rw [he]; exact h4) q hq
    rw [h1] at this; cases this
theorem stop_best {n0 : Nat} {w : World} {x : Nat} {L : List Ru} {tb : Nat} {ra : Option Addr} {rc : Nat} {T : List (Px × Value)} {X : Nat → Prop} (h : Inc n0 w x L L.length tb ra rc T X) {c : Bool} {ys : List Nat} {port : Int} {KY : List Px} (hK : ((inL T c ys).map fun e => e.1) = KY) (hb : ∀ q ∈ KY, Bytes q.xs) {k : Nat} (hk : k ≤ KY.length) {ini : List PP} {x' : PP} (h1 : upto KY hb k = ini ++ [x']) (h2 : ∀ y ∈ ini, NoA L port y.1.2) {i : Nat} (h3 : FstA L port x'.1.2 i) : (i : Int) = bV (mtA c ys port) kA L := by
  obtain ⟨k', rfl⟩ : ∃ k', k = k' + 1 := by
    cases k with
    | zero => simp [upto] at h1
    | succ k' => exact ⟨k', rfl⟩
  rw [upto_succ] at h1
  obtain ⟨rfl, h5⟩ := List.append_inj' h1 rfl
  obtain rfl : dn KY hb k' = x' := by simpa using h5
  obtain ⟨a, ha⟩ : ∃ a, KY.length - 1 - k' = a := ⟨_, rfl⟩
  obtain ⟨p, hp⟩ : ∃ p, KY[a]? = some p := ⟨_, List.getElem?_eq_getElem (by omega)⟩
  have hx : (dn KY hb k').1.2 = p := by
    show (KY[KY.length - 1 - k']?).getD zQ = p
    rw [ha, hp]; rfl
  rw [hx] at h3
  obtain ⟨hi, ⟨r, hr, hra⟩, hfst⟩ := h3
  obtain ⟨hil, r', hr', hsf, hrp⟩ := idx_mem.1 hi
  rw [hr] at hr'; cases hr'
  have hgrow : KY.Pairwise fun a b => a.n < b.n := by
    rw [← hK]
    exact List.pairwise_map.2 (has_grow h.st.srt.1 h.st.srt.2)
  have hhas : has p c ys = true := by
    have hm : p ∈ KY := List.mem_of_getElem? hp
    rw [← hK] at hm
    obtain ⟨e, he, rfl⟩ := List.mem_map.1 hm
    exact (List.mem_filter.1 he).2
  refine bV_of (.inr ⟨i, r, rfl, hil, hr, ?_, fun j q hj hq hm => ?_⟩)
  · unfold mtA
    rw [hsf, hra, hrp, hhas]
    rfl
  · obtain ⟨g1, g2, g3, g4, b, g5⟩ := mt_in h hq hm
    rw [hK] at g5
    have hbl := (List.getElem?_eq_some_iff.1 g5).1
    rcases Nat.lt_trichotomy b a with hba | hba | hba
    · refine .inl ?_
      have h6 := List.pairwise_iff_getElem.1 hgrow b a hbl (by omega) hba
      rw [(List.getElem?_eq_some_iff.1 g5).2, (List.getElem?_eq_some_iff.1 hp).2] at h6
      show q.p.n < r.p.n
      rw [hrp]; exact h6
    · subst hba
      rw [hp] at g5
      have hqp : p = q.p := by cases g5; rfl
      refine .inr ⟨by show q.p.n = r.p.n; rw [hrp, hqp], Nat.le_of_not_lt fun hc => ?_⟩
      have := hfst j (by rw [hqp]; exact g4) hc q hq
      rw [g1] at this; cases this
    · obtain ⟨y, hy, he⟩ := upto_get KY hb g5 (k := k') (by omega)
      have := h2 y hy j (by rw [he]; exact g4) q hq
      rw [g1] at this; cases this

set_option maxHeartbeats 8000000 in
set_option maxRecDepth 100000 in
theorem match_any (n0 : Nat) (w : World) (x : Nat) (L : List Ru) (tb : Nat) (ra : Option Addr) (rc : Nat) (T : List (Px × Value)) (X : Nat → Prop) (h : Inc n0 w x L L.length tb ra rc T X) (hm : L.length ≤ 32) (c : Bool) (ys : List Nat) (hy : Bytes ys) (port : Int) :
    Calls Tryz.prog 28 #[.pointer (some ⟨x, 0, none⟩), .agg (adr c ys).toArray, .int .i64 port] w fun e w' => e = .returned (.int .i64 (bV (mtA c ys port) kA L)) ∧ Fr No w w' := by
  refine (callsIn_wide (n := 20)).1 (callsIn_of_wp_marks Tryz.func28 rfl trivial ?_ rfl)
  simp only [Tryz.ntmps28, List.size_toArray, List.length_cons, List.length_nil, Nat.reduceAdd, Nat.reduceSub, Array.replicate_succ, Array.replicate_zero, List.push_toArray, List.append_toArray, List.nil_append, List.cons_append]
  refine wpIn_wide.2 ?_
  obtain ⟨A, hA, -, hAs, -⟩ := adr_letter c ys hy
  obtain ⟨Z, hZ⟩ : ∃ Z : Array Value, noP.toArray = Z := ⟨_, rfl⟩
  have v28 := zero29
  rw [hZ] at v28
  have hZs : Z.size = 18 := by rw [← hZ]; rfl
  have v3 := Tryz.zeroValue3
  have HI := Lib.hid h
  have HY := Lib.hid (And.intro hA (And.intro hy (And.intro hZ hm)))
  rw [hA]
  clear h hA hy hZ hm
  have t3 := Tryz.underlying3
  have u3 := Tryz.runUnderlying3
  have g3 := Tryz.isAgg3
  have z3 := Tryz.sizeOf3
  have t4 := Tryz.underlying4
  have u4 := Tryz.runUnderlying4
  have g4 := Tryz.isAgg4
  have z4 := Tryz.sizeOf4
  have t22 := Tryz.underlying22
  have u22 := Tryz.runUnderlying22
  have g22 := Tryz.isAgg22
  have z22 := Tryz.sizeOf22
  have t25 := Tryz.underlying25
  have u25 := Tryz.runUnderlying25
  have g25 := Tryz.isAgg25
  have z25 := Tryz.sizeOf25
  have t29 := Tryz.underlying29
  have u29 := Tryz.runUnderlying29
  have g29 := Tryz.isAgg29
  have z29 := Tryz.sizeOf29
  have t31 := Tryz.underlying31
  have u31 := Tryz.runUnderlying31
  have g31 := Tryz.isAgg31
  have z31 := Tryz.sizeOf31
  have t32 := Tryz.underlying32
  have u32 := Tryz.runUnderlying32
  have g32 := Tryz.isAgg32
  have z32 := Tryz.sizeOf32
  have t50 := Tryz.underlying50
  have u50 := Tryz.runUnderlying50
  have g50 := Tryz.isAgg50
  have z50 := Tryz.sizeOf50
  have t48 := Tryz.underlying48
  have u48 := Tryz.runUnderlying48
  have g48 := Tryz.isAgg48
  have z48 := Tryz.sizeOf48
  have t52 := Tryz.underlying52
  have u52 := Tryz.runUnderlying52
  have g52 := Tryz.isAgg52
  have z52 := Tryz.sizeOf52
  have t89 := Tryz.underlying89
  have u89 := Tryz.runUnderlying89
  have g89 := Tryz.isAgg89
  have z89 := Tryz.sizeOf89
  have c47 := Tryz.call47
  have c48 := Tryz.call48
  have c39 := Tryz.call39
  have c49 := Tryz.call49
  have mixed : Tryz.prog.follows .mixedOrders = true := by kernel_rfl
  obtain ⟨k24, hk24⟩ : ∃ k, k = 17 := ⟨_, rfl⟩
  rw [← hk24] at z25
  have nk24 : ¬ k24 = 0 := by omega
  have HK25 := Lib.hid hk24
  obtain ⟨k40, hk40⟩ : ∃ k, k = 18 := ⟨_, rfl⟩
  rw [← hk40] at z29
  have nk40 : ¬ k40 = 0 := by omega
  have HK29 := Lib.hid hk40
  obtain ⟨k22, hk22⟩ : ∃ k, k = 22 := ⟨_, rfl⟩
  rw [← hk22] at z31
  have nk22 : ¬ k22 = 0 := by omega
  have HK31 := Lib.hid hk22
  have hP : Tryz.prog = PD := rfl
  rw [hP] at t3 u3 g3 z3 t4 u4 g4 z4 t22 u22 g22 z22 t25 u25 g25 z25 t29 u29 g29 z29 t31 u31 g31 z31 t32 u32 g32 z32 t50 u50 g50 z50 t48 u48 g48 z48 t52 u52 g52 z52 t89 u89 g89 z89 c47 c48 c39 c49 mixed v28 v3 ⊢
  have HP := Lib.hid hP.symm
  clear hP hk24 hk40 hk22
  have hAk : A.size = k24 := by rw [HK25.out]; exact hAs
  have hZk : Z.size = k40 := by rw [HK29.out]; exact hZs
  clear hAs hZs
  go_upto_region 1 with fail
  obtain ⟨B1, B2, B3, B4, hF4, hz4⟩ := alloc4 w (.cells #[.pointer (some ⟨x, 0, none⟩)] 32) (.cells A 25) (.cells #[.int .i64 port] 3) (.cells #[.int .i64 0] 3)
  obtain ⟨W4, hW4⟩ : ∃ W4, (((w.alloc (.cells #[.pointer (some ⟨x, 0, none⟩)] 32)).alloc (.cells A 25)).alloc (.cells #[.int .i64 port] 3)).alloc (.cells #[.int .i64 0] 3) = W4 := ⟨_, rfl⟩
  obtain ⟨s, hs⟩ : ∃ s, w.heap.size = s := ⟨_, rfl⟩
  rw [hs, hW4] at B1 B2 B3 B4
  rw [hs] at hz4
  rw [hW4] at hF4 hz4
  rw [hs, hW4]
  have HB := Lib.hid (And.intro B1 (And.intro B2 (And.intro B3 (And.intro B4 (And.intro hF4 (And.intro hz4 hs))))))
  clear B1 B2 B3 B4 hF4 hz4 hs hW4
  have HC : Hid (∀ w', Fr No W4 w' → w'.cell? ⟨s, 0, none⟩ = some (.pointer (some ⟨x, 0, none⟩)) ∧ Sem.run PD (loadCellsFrom ⟨s + 1, 0, none⟩ 0 k24 #[]) w' = .ok A w' ∧ w'.cell? ⟨s + 1 + 1, 0, none⟩ = some (.int .i64 port) ∧ w'.cell? ⟨x, 0, none⟩ = some (.slice ra L.length rc) ∧ w'.cell? ⟨x, 1, none⟩ = some (.pointer (some ⟨tb, 0, none⟩))) := fun w' hf => by
    have hbx := HI.out.box
    refine ⟨cell_of (hf.keep HB.out.1) rfl, load_block (hf.keep HB.out.2.1) hAk (fun j v hv => by simpa using hv), cell_of (hf.keep HB.out.2.2.1) rfl, cell_of ((HB.out.2.2.2.2.1.trans hf).keep hbx) rfl, cell_of ((HB.out.2.2.2.2.1.trans hf).keep hbx) rfl⟩
  have HS : Hid (∀ w', Fr No W4 w' → Fr No W4 w' ∧ w'.cell? ⟨s, 0, none⟩ = some (.pointer (some ⟨x, 0, none⟩)) ∧ Sem.run PD (loadCellsFrom ⟨s + 1, 0, none⟩ 0 k24 #[]) w' = .ok A w' ∧ w'.cell? ⟨x, 1, none⟩ = some (.pointer (some ⟨tb, 0, none⟩))) := fun w' hf => ⟨hf, (HC.out w' hf).1, (HC.out w' hf).2.1, (HC.out w' hf).2.2.2.2⟩
  have HMT : Hid (∀ w', Fr No W4 w' → Calls Tryz.prog 48 #[.pointer (some ⟨tb, 0, none⟩), .agg A] w' fun e w'' => ∃ ad cp, e = .returned (.slice ad (inL T c ys).length cp) ∧ w''.ownsRow w'.heap.size 29 18 (.slice ad (inL T c ys).length cp) (inL T c ys).length (flatP ((inL T c ys).map fun e => e.1)) ∧ Fr No w' w'') := fun w' hf => by
    rw [← HY.out.1]
    exact matchesSL (HI.out.st.no (HB.out.2.2.2.2.1.trans hf)) c ys HY.out.2.1
  obtain ⟨N, hN⟩ : ∃ N, (inL T c ys).length = N := ⟨_, rfl⟩
  rw [hN] at HMT
  have HN := Lib.hid hN
  clear hN
  have hS0 := HS.out _ (Fr.drew No W4)
  go_region_held3 (fun w' => Fr No W4 w' ∧ w'.cell? ⟨s, 0, none⟩ = some (.pointer (some ⟨x, 0, none⟩)) ∧ Sem.run PD (loadCellsFrom ⟨s + 1, 0, none⟩ 0 k24 #[]) w' = .ok A w' ∧ w'.cell? ⟨x, 1, none⟩ = some (.pointer (some ⟨tb, 0, none⟩))) (first | assumption | (with_reducible exact HS.out _ K5) | exact HS.out _ K6) (first | (go_at_call 48; ((with_reducible refine (at_prog HP.out (HMT.out _ (And.left (by assumption)))).mono ?_); rintro e w5 ⟨ad, cp, rfl, ho5, hf5⟩; have K5 : Fr No W4 w5 := Fr.trans (And.left (by assumption)) hf5)) | (go_at_call 47; ((with_reducible refine (at_prog HP.out (back_any _ _ _ _)).mono ?_); rintro e w6 ⟨rfl, rfl⟩; have K6 : Fr No W4 (w5.alloc (.cells #[.slice ad N cp] 89)) := K5.trans (Fr.alloc No w5 _))))
  go_wp2_with fail
  obtain ⟨W0, hW0⟩ : ∃ W0, w5.alloc (.cells #[.slice ad N cp] 89) = W0 := ⟨_, rfl⟩
  obtain ⟨bs0, hbs0⟩ : ∃ b, w5.heap.size = b := ⟨_, rfl⟩
  have hKY : ∀ q ∈ (inL T c ys).map fun e => e.1, Bytes q.xs := fun q hq => by
    obtain ⟨e, he, rfl⟩ := List.mem_map.1 hq
    exact (HI.out.st.srt.2 e (List.mem_filter.1 he).1).1
  obtain ⟨hr5, hl5⟩ := RowP.own hKY ho5
  have hr0 : RowP W0 ad ((inL T c ys).map fun e => e.1) := by rw [← hW0]; exact hr5.no (Fr.alloc No w5 _)
  have hsz0 : W0.heap.size = bs0 + 1 := by rw [← hW0, ← hbs0]; simp
  have hlow : ∀ a, ad = some a → ((inL T c ys).map fun e => e.1) ≠ [] → a.block < W0.heap.size := fun a ha hn => by
    obtain ⟨b, o, cs, T', f, h1, h2, -⟩ := hr0.2 hn
    rw [ha] at h1; cases h1
    exact some_lt h2
  have hbc : W0.cell? ⟨bs0, 0, none⟩ = some (.slice ad N cp) := by rw [← hW0, ← hbs0]; exact cell_of (heap_alloc_new w5 _) rfl
  rw [hW0] at K6 ⊢
  rw [hbs0]
  have hsm : N ≤ 100000 := by
    have h1 := HI.out.len
    have h2 := HY.out.2.2.2
    have h3 : (inL T c ys).length ≤ T.length := List.length_filter_le _ _
    rw [HN.out] at h3
    omega
  have HK6 := Lib.hid K6
  have HKY := Lib.hid hKY
  have HR5 := Lib.hid hr5
  clear hW0 hbs0 ho5 hr5 K6 K5 hf5 hS0 hKY
  obtain ⟨KY, hKYe⟩ : ∃ KY, ((inL T c ys).map fun e => e.1) = KY := ⟨_, rfl⟩
  have hKYb : ∀ q ∈ KY, Bytes q.xs := by rw [← hKYe]; exact HKY.out
  rw [hKYe] at hr0 hlow hl5
  have HKE := Lib.hid hKYe
  have HSZ := Lib.hid hsz0
  clear hKYe HKY HR5 hsz0
  refine (wpIn_wide (n := 20)).1 ?_
  refine wpIn_rangeFunc_ownH (w := W0) rfl (by decide) (gf := 70) (lb := #[.pointer (some ⟨bs0, 0, none⟩)]) rfl trivial (enters_of Tryz.func70 (by kernel_rfl) rfl)
    (back_stops 19 (by decide) bs0 W0.heap.size ad cp KY hKYb N hl5 hsm W0 (by rw [HSZ.out]; omega) (Nat.le_refl _) hbc hr0 hlow) belowK_t (belowK_b (Nat.le_refl _)) (Below.refl _ _) (fun _ => rfl)
    (inM L port W0) (outM L port (s + 1 + 1 + 1) W0) (inM_own L port W0) (outM_own L port (s + 1 + 1 + 1) W0)
    ⟨fun y hy => (by cases hy), Below.refl _ _⟩
    (axM W0 fun Bx x' => { tmps := #[.pointer (some ⟨x, 0, none⟩), .agg A, .int .i64 port, .pointer (some ⟨s, 0, none⟩), .pointer (some ⟨s + 1, 0, none⟩), .pointer (some ⟨s + 1 + 1, 0, none⟩), .pointer (some ⟨s + 1 + 1 + 1, 0, none⟩), undef, .pointer (some ⟨Bx, 0, none⟩), undef, undef, undef, undef, .pointer (some ⟨x, 0, none⟩), .pointer (some ⟨x, 0, none⟩), .pointer (some ⟨x, 1, none⟩), .pointer (some ⟨tb, 0, none⟩), .agg A, .slice ad N cp, .func (.func 70) #[] #[.pointer (some ⟨bs0, 0, none⟩)], .int .i64 (x'.1.1 : Int), .agg (pfx x'.1.2.b x'.1.2.xs x'.1.2.n).toArray, undef, undef, undef, undef, undef, undef, undef, undef, undef, undef, undef, undef, undef, undef, undef, undef, undef, undef, undef, undef, undef, undef, undef, undef, undef, undef], defers := [] })
    (axM_own W0 _) ?assign ?body ?done ?stop
  case assign =>
    intro l pre x' W K hi hK
    obtain ⟨Q, hQ, -, -, hQs, -, hQ1⟩ := pfx_letter x'.1.2.b x'.1.2.xs x'.1.2.n x'.2
    have hQk : Q.size = k40 := by rw [HK29.out]; exact hQs
    obtain ⟨y, hst, hyb, hyf⟩ := store_all (P := PD) Q.toList (heap_alloc_new W (.cells Z 29)) (by rw [Array.length_toList, hQk, hZk]) hQ1
    have hfy : Fr No W y := (Fr.alloc No W _).ofNew hyf fun k hk => .inr (by rw [hk]; exact Nat.le_refl _)
    have HHK := Lib.hid hK
    clear hK
    simp only [encP]
    rw [hQ]
    gi_wp2
    rw [← hQ]
    exact HHK.out _ y (keepsFrom_fr hfy) (below_fr hfy hi.2.size) ⟨hi.1, hi.2.trans (below_fr hfy hi.2.size)⟩ ⟨W.heap.size, hi.2.size, by rw [hQ]; simpa using hyb, rfl⟩
  case body =>
    rintro l pre x' a' W hl ⟨r, hr⟩ ⟨hno, hB⟩ ⟨Bx, hBx, hbx, rfl⟩ hlt
    have hWF : Fr No W4 W := HK6.out.trans (fr_below hB)
    obtain ⟨q1, q2, q3, q4, q5⟩ := HC.out W hWF
    obtain ⟨Q, hQ, -, -, hQs, -, hQ1⟩ := pfx_letter x'.1.2.b x'.1.2.xs x'.1.2.n x'.2
    have hQk : Q.size = k40 := by rw [HK29.out]; exact hQs
    rw [hQ] at hbx
    have lQ : Sem.run PD (loadCellsFrom ⟨Bx, 0, none⟩ 0 k40 #[]) W = .ok Q W := load_block hbx hQk (fun j v hv => by simpa using hv)
    have lQd : Sem.run PD (loadCellsFrom ⟨Bx, 0, none⟩ 0 k40 #[]) W.drew = .ok Q W.drew := load_block ((Fr.drew No W).keep hbx) hQk (fun j v hv => by simpa using hv)
    obtain ⟨v0, hv0⟩ : ∃ v0, (valL T x'.1.2).getD (.slice none 0 0) = v0 := ⟨_, rfl⟩
    have hval := (HI.out.no (HB.out.2.2.2.2.1.trans hWF)).val x'.1.2
    rw [hv0] at hval
    obtain ⟨m, hmm⟩ : ∃ m, (idx L L.length x'.1.2).length = m := ⟨_, rfl⟩
    rw [hmm] at hval
    obtain ⟨a0, c0, rfl⟩ := own_shape hval
    have HG : Hid (∀ w', Fr No W w' → Calls Tryz.prog 39 #[.pointer (some ⟨tb, 0, none⟩), .agg Q] w' fun e w'' => e = .returned (.tuple #[.slice a0 m c0, .bool (valL T x'.1.2).isSome]) ∧ Fr No w' w'') := fun w' hf => by
      have hg := getSL ((HI.out.no (HB.out.2.2.2.2.1.trans hWF)).st.no hf) x'.1.2 x'.2
      rw [hv0, hQ] at hg
      exact hg
    generalize (valL T x'.1.2).isSome = b0 at HG
    have hd1 : 1 ≤ 20 - 1 - 1 := by decide
    have HV := Lib.hid (And.intro hval (And.intro hmm (And.intro hno hB)))
    have HW := Lib.hid (And.intro hWF (And.intro hl (And.intro hBx hbx)))
    dsimp only
    rw [hQ]
    clear hval hmm hno hB hWF hl hBx hbx hv0 hQ1 hQs hr hlt
    gi_wp2
    -- round
    have HM32 : Hid (m ≤ 32) := by
      have h1 := idx_len L L.length x'.1.2
      have h2 := HY.out.2.2.2
      have h3 := HV.out.2.1
      show m ≤ 32
      omega
    refine Code.wpIn_mono (Q := fun e a w' => e = .normal ∧ a = { tmps := #[.pointer (some ⟨x, 0, none⟩), .agg A, .int .i64 port, .pointer (some ⟨s, 0, none⟩), .pointer (some ⟨s + 1, 0, none⟩), .pointer (some ⟨s + 1 + 1, 0, none⟩), .pointer (some ⟨s + 1 + 1 + 1, 0, none⟩), undef, .pointer (some ⟨Bx, 0, none⟩), .slice a0 m c0, .bool b0, undef, undef, .pointer (some ⟨x, 0, none⟩), .pointer (some ⟨x, 0, none⟩), .pointer (some ⟨x, 1, none⟩), .pointer (some ⟨tb, 0, none⟩), .agg A, .slice ad N cp, .func (.func 70) #[] #[.pointer (some ⟨bs0, 0, none⟩)], .int .i64 (x'.1.1 : Int), .agg Q, .tuple #[.slice a0 m c0, .bool b0], .pointer (some ⟨x, 0, none⟩), .pointer (some ⟨x, 0, none⟩), .pointer (some ⟨x, 1, none⟩), .pointer (some ⟨tb, 0, none⟩), .agg Q, .tuple #[.slice a0 m c0, .bool b0], .slice a0 m c0, .bool b0, undef, undef, undef, undef, undef, undef, undef, undef, undef, undef, undef, undef, undef, undef, undef, undef, undef], defers := [] } ∧ Fr No W.drew w') ?cont3 ?reg3
    case reg3 =>
      gi_region_with_o (refine ⟨trivial, ?_⟩; gi_at_call 39; refine (CallsIn.inRound l (callsIn_wide.2 (at_prog HP.out (HG.out _ (Fr.drew No W))))).mono ?_; rintro e w' ⟨rfl, hf7⟩)
      all_goals exact ⟨rfl, rfl, hf7⟩
    case cont3 =>
      rintro e a w' ⟨rfl, rfl, hf7⟩
      have HW7 : Hid (Fr No W w' ∧ Fr No W4 w') := ⟨(Fr.drew No W).trans hf7, HW.out.1.trans ((Fr.drew No W).trans hf7)⟩
      clear hf7 q1 q2 q3 q4 q5 lQ lQd
      gi_wp2
      gi_loopw [33] (fun s1 wr => ∃ k : Nat, k ≤ m ∧ s1 = .int .i64 k ∧ Fr No W wr ∧ ∀ (j : Nat) (i : Nat) (q : Ru), j < k → (idx L L.length x'.1.2)[j]? = some i → L[i]? = some q → apl q port = false) (fun s1 _ => m - (intOf s1).toNat)
      case atStart => exact ⟨0, Nat.zero_le _, rfl, HW7.out.1, fun j i q hj => by omega⟩
      case round =>
        obtain ⟨k, hkm, rfl, hfr, hnk⟩ := hrel
        by_cases hk : k < m
        · obtain ⟨id, hid⟩ : ∃ id, (idx L L.length x'.1.2)[k]? = some id := ⟨_, List.getElem?_eq_getElem (by rw [HV.out.2.1]; exact hk)⟩
          obtain ⟨b1, o1, rfl, hc1⟩ := (At.own HV.out.1) k (.int .i64 id) (nums_get hid)
          have hc1r : wr.cell? ⟨b1, o1 + k, none⟩ = some (.int .i64 id) := hfr.cell hc1
          obtain ⟨hidL, r1, hr1, -, -⟩ := idx_mem.1 (List.mem_of_getElem? hid)
          obtain ⟨b2, o2, rfl, hb2, hcell⟩ := HI.out.rows.cell hr1
          obtain ⟨R, hR, hRs, -⟩ := ru_letter r1 hb2
          have hRk : R.size = k22 := by rw [HK31.out]; exact hRs
          have hW4r : Fr No W4 wr := HW.out.1.trans hfr
          have hW4d : Fr No W4 wr.drew := hW4r.trans (Fr.drew No wr)
          obtain ⟨q1, q2, q3, q4, q5⟩ := HC.out wr hW4r
          obtain ⟨d1, d2, d3, d4, d5⟩ := HC.out wr.drew hW4d
          obtain ⟨ln, hln⟩ : ∃ ln, L.length = ln := ⟨_, rfl⟩
          rw [hln] at q4 d4
          have lR : Sem.run PD (loadCellsFrom ⟨b2, o2 + id * k22, none⟩ 0 k22 #[]) wr.drew = .ok R wr.drew := by rw [HK31.out, ← hR]; exact (hcell wr.drew (HB.out.2.2.2.2.1.trans hW4d)).1 PD
          have p1 : (0 : Int) ≤ (k : Int) := by omega
          have p2 : (k : Int) < (m : Int) := by omega
          have p3 : (0 : Int) ≤ (id : Int) := by omega
          have p4 : (id : Int) < (ln : Int) := by omega
          have HAP : Hid (∀ w', Calls Tryz.prog 49 #[.agg R, .int .i64 port] w' fun e w'' => e = .returned (.bool (apl r1 port)) ∧ Fr No w' w'') := fun w' => by rw [← hR]; exact applies_any r1 hb2 port w'
          have hrb : ∀ w', Fr No W4 w' → w'.heap[s + 1 + 1 + 1]? = some (.cells #[.int .i64 0] 3 (0, 0)) ∧ w'.cell? ⟨s + 1 + 1 + 1, 0, none⟩ = some (.int .i64 0) ∧ w'.frozen? ⟨s + 1 + 1 + 1, 0, none⟩ = false := fun w' hf => ⟨hf.keep HB.out.2.2.2.1, cell_of (hf.keep HB.out.2.2.2.1) rfl, frozen_of_row w' _ 0 _ _ (hf.keep HB.out.2.2.2.1)⟩
          have HRB := Lib.hid hrb
          have HH := Lib.hid (And.intro hid (And.intro hr1 (And.intro hfr (And.intro hnk hW4d))))
          clear hc1 hidL hR hRs hcell hb2 hln hW4r hrb hid hr1 hfr hnk hW4d
          gi_wp2
          refine Code.wpIn_mono (Q := fun e a w' => e = .normal ∧ a = { tmps := #[.pointer (some ⟨x, 0, none⟩), .agg A, .int .i64 port, .pointer (some ⟨s, 0, none⟩), .pointer (some ⟨s + 1, 0, none⟩), .pointer (some ⟨s + 1 + 1, 0, none⟩), .pointer (some ⟨s + 1 + 1 + 1, 0, none⟩), undef, .pointer (some ⟨Bx, 0, none⟩), .slice (some ⟨b1, o1, none⟩) m c0, .bool b0, undef, .int .i64 id, .pointer (some ⟨x, 0, none⟩), .pointer (some ⟨x, 0, none⟩), .pointer (some ⟨x, 1, none⟩), .pointer (some ⟨tb, 0, none⟩), .agg A, .slice ad N cp, .func (.func 70) #[] #[.pointer (some ⟨bs0, 0, none⟩)], .int .i64 (x'.1.1 : Int), .agg Q, .tuple #[.slice (some ⟨b1, o1, none⟩) m c0, .bool b0], .pointer (some ⟨x, 0, none⟩), .pointer (some ⟨x, 0, none⟩), .pointer (some ⟨x, 1, none⟩), .pointer (some ⟨tb, 0, none⟩), .agg Q, .tuple #[.slice (some ⟨b1, o1, none⟩) m c0, .bool b0], .slice (some ⟨b1, o1, none⟩) m c0, .bool b0, .slice (some ⟨b1, o1, none⟩) m c0, .int .i64 m, .int .i64 k, .bool true, .pointer (some ⟨b1, o1 + k, none⟩), .int .i64 id, .pointer (some ⟨x, 0, none⟩), .pointer (some ⟨x, 0, none⟩), .pointer (some ⟨x, 0, none⟩), .slice (some ⟨b2, o2, none⟩) ln rc, .int .i64 id, .pointer (some ⟨b2, o2 + id * k22, none⟩), .agg R, .int .i64 port, .bool (apl r1 port), u46, u47], defers := [] } ∧ Fr No wr.drew w') ?cont7 ?reg7
          case reg7 =>
            gi_region_with_o (refine ⟨trivial, ?_⟩; gi_at_call 49; refine (CallsIn.inRound l (callsIn_wide.2 (at_prog HP.out (HAP.out wr.drew)))).mono ?_; rintro e w9 ⟨rfl, hf9⟩)
            all_goals exact ⟨rfl, rfl, hf9⟩
          case cont7 =>
            rintro e a w9 ⟨rfl, rfl, hf9⟩
            obtain ⟨g0, g1, g2⟩ := HRB.out w9 (HH.out.2.2.2.2.trans hf9)
            have HF9 := Lib.hid hf9
            have HG0 := Lib.hid g0
            clear g0 hf9 q1 q2 q3 q4 q5 d1 d2 d3 d4 d5 lR
            cases ha : apl r1 port with
            | true =>
              have HA := Lib.hid ha
              clear ha
              gi_wp2
              have hf9 : Fr No W w9 := (HH.out.2.2.1.trans (Fr.drew No wr)).trans HF9.out
              have hrbW0 : W0.heap[s + 1 + 1 + 1]? = some (.cells #[.int .i64 0] 3 (0, 0)) := HK6.out.keep HB.out.2.2.2.1
              have hst : Fr (fun k => k = s + 1 + 1 + 1) w9 (w9.setCell ⟨s + 1 + 1 + 1, 0, none⟩ (.int .i64 id)) := Fr.setCell _ _ _ _ rfl
              have hB' : Fr No W0 W := fr_below HV.out.2.2.2
              refine ⟨⟨Nat.le_trans hf9.size hst.size, fun k' o _ hk' ho => ?_⟩, rfl, id, pre, x', rfl, HV.out.2.2.1, ⟨List.mem_of_getElem? HH.out.1, ⟨r1, HH.out.2.1, HA.out⟩, fun j hj hji q hq => ?_⟩, setCell_same HG0.out _, ((hB'.trans hf9).no).trans hst⟩
              · by_cases hkr : k' = s + 1 + 1 + 1
                · subst hkr
                  rw [hB'.keep hrbW0] at hk'; cases hk'; cases ho
                · exact (hst.block k' (Nat.lt_of_lt_of_le (some_lt hk') hf9.size) hkr).trans (hf9.keep hk')
              · obtain ⟨jx, hjx⟩ := List.getElem?_of_mem hj
                have hlt : jx < k := by
                  refine Nat.lt_of_not_le fun hc => ?_
                  rcases Nat.eq_or_lt_of_le hc with h | h
                  · subst h; rw [HH.out.1] at hjx; cases hjx; omega
                  · have h1 := List.pairwise_iff_getElem.1 (idx_lt L L.length x'.1.2) k jx (List.getElem?_eq_some_iff.1 HH.out.1).1 (List.getElem?_eq_some_iff.1 hjx).1 h
                    have h2 := (List.getElem?_eq_some_iff.1 HH.out.1).2
                    have h3 := (List.getElem?_eq_some_iff.1 hjx).2
                    omega
                exact HH.out.2.2.2.1 jx j q hlt hjx hq
            | false =>
              have HA := Lib.hid ha
              clear ha
              gi_wp2
              go_roundw
              case rel =>
                refine ⟨k + 1, by omega, next_i64 (by have := HM32.out; omega), (HH.out.2.2.1.trans (Fr.drew No wr)).trans HF9.out, fun j i q hj hi hq => ?_⟩
                by_cases hjk : j = k
                · subst hjk
                  rw [HH.out.1] at hi; cases hi
                  rw [HH.out.2.1] at hq; cases hq
                  exact HA.out
                · exact HH.out.2.2.2.1 j i q (by omega) hi hq
              case measure =>
                have e1 : wrap64 ((k : Int) + 1) = (k : Int) + 1 := wrap64_small (by omega) (by have := HM32.out; omega)
                generalize wrap64 ((k : Int) + 1) = z at e1 ⊢
                rw [e1]
                simp [intOf]
                omega
        · obtain rfl : k = m := by omega
          gi_wp2
          refine ⟨keepsFrom_fr hfr, below_fr hfr HV.out.2.2.2.size, fun y hy => ?_, HV.out.2.2.2.trans (below_fr hfr HV.out.2.2.2.size)⟩
          rcases List.mem_append.1 hy with hy | hy
          · exact HV.out.2.2.1 y hy
          · rw [List.mem_singleton.1 hy]
            intro i hi q hq
            obtain ⟨jx, hjx⟩ := List.getElem?_of_mem hi
            have hjl := (List.getElem?_eq_some_iff.1 hjx).1
            rw [HV.out.2.1] at hjl
            exact hnk jx i q hjl hjx hq
  case done =>
    rintro D xs W hD rfl ⟨hno, hB⟩ hK
    have hWF : Fr No W4 W := HK6.out.trans (fr_below hB)
    have hrb0 := hWF.keep HB.out.2.2.2.1
    have g1 : W.cell? ⟨s + 1 + 1 + 1, 0, none⟩ = some (.int .i64 0) := cell_of hrb0 rfl
    have g2 : W.frozen? ⟨s + 1 + 1 + 1, 0, none⟩ = false := frozen_of_row W _ 0 _ _ hrb0
    have HH := Lib.hid (And.intro hno (And.intro hB (And.intro hWF (And.intro hrb0 hD))))
    clear hno hB hWF hrb0
    gi_wp2
    go_wp2_with fail
    have hK' := (KeepsOthers.setCell W ⟨s + 1 + 1 + 1, 0, none⟩ (.int .i64 (-1))).same D _ hK rfl
    refine ⟨by simp, .inl ⟨_, _, rfl, run_takeDeferred hK', ?_⟩⟩
    have hc5 := cell_kept (World.cell?_setCell_same' W ⟨s + 1 + 1 + 1, 0, none⟩ (.int .i64 (-1)) (by rw [g1]; rfl)) (grownBy_putObj' _ D (.deferred none)) (fun r e => by cases e; exact ⟨_, hK', rfl⟩)
    refine ⟨.int .i64 (-1), ?_, ?_, ?_⟩
    · simp [results, Tryz.f28, go_sem, hc5, g3]
    · rw [done_best HI.out HKE.out hKYb hl5 HH.out.1]
    · have hbl : Below (s + 1 + 1 + 1) (W.setCell ⟨s + 1 + 1 + 1, 0, none⟩ (.int .i64 (-1))) ((W.setCell ⟨s + 1 + 1 + 1, 0, none⟩ (.int .i64 (-1))).putObj D (.deferred none)) := belowK_b (w := W0) (by have := some_lt (HK6.out.keep HB.out.2.2.2.1); omega) _ D _ _ HH.out.2.2.2.2 hK' rfl rfl
      have hfin : Below (s + 1 + 1 + 1) W _ := ((Below.refl (s + 1 + 1 + 1) W).setCell (p := ⟨s + 1 + 1 + 1, 0, none⟩) (Nat.le_refl _) (.int .i64 (-1))).trans hbl
      refine (HB.out.2.2.2.2.1.trans HH.out.2.2.1).ofNew (S := No) (T := fun k => s + 1 + 1 + 1 ≤ k) ⟨hfin.os, hfin.tape, hfin.output, hfin.size, fun k _ hk => hfin.block k (Nat.lt_of_not_le hk)⟩ fun k hk => .inr (by have := HB.out.2.2.2.2.2.2; omega)
  case stop =>
    rintro D c' pre W hD ⟨k, hk, rfl⟩ ⟨rfl, i, ini, x', h1, h2, h3, h4, h5⟩ hK
    have g1 : W.cell? ⟨s + 1 + 1 + 1, 0, none⟩ = some (.int .i64 i) := cell_of h4 rfl
    have HH := Lib.hid (And.intro h1 (And.intro h2 (And.intro h3 (And.intro h4 (And.intro h5 hD)))))
    clear h1 h2 h3 h4 h5
    gi_wp2
    refine ⟨by simp, .inl ⟨_, _, rfl, run_takeDeferred hK, ?_⟩⟩
    have hc5 := cell_kept g1 (grownBy_putObj' _ D (.deferred none)) (fun r e => by cases e; exact ⟨_, hK, rfl⟩)
    refine ⟨.int .i64 (i : Int), ?_, ?_, ?_⟩
    · simp [results, Tryz.f28, go_sem, hc5, g3]
    · rw [stop_best HI.out HKE.out hKYb (by rw [hl5]; exact hk) HH.out.1 HH.out.2.1 HH.out.2.2.1]
    · have hbl : Below (s + 1 + 1 + 1) W (W.putObj D (.deferred none)) := belowK_b (w := W0) (by have := some_lt (HK6.out.keep HB.out.2.2.2.1); omega) _ D _ _ HH.out.2.2.2.2.2 hK rfl rfl
      refine ((HB.out.2.2.2.2.1.trans HK6.out).ofNew HH.out.2.2.2.2.1 fun k hk => .inr (by have := HB.out.2.2.2.2.2.2; omega)).ofNew (S := No) (T := fun k => s + 1 + 1 + 1 ≤ k) ⟨hbl.os, hbl.tape, hbl.output, hbl.size, fun k _ hk => hbl.block k (Nat.lt_of_not_le hk)⟩ fun k hk => .inr (by have := HB.out.2.2.2.2.2.2; omega)
end Go.Proofs.YtnadendhboiliaaGreat
