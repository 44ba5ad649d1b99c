/-
  CONTRACT of Expire of the timers of tags, over this seat's translation.
  Conditions: the timers lie in memory as Tim says.
-/
import Derived.Test.YtbgddldkpjeieaaGreatGT4
namespace Go.Proofs.YtbgddldkpjeieaaGreat.G
open Go.ChangeShapes Go.WideShapes Go.ChangeAt Go.RowKit Go.Maps
set_option linter.unusedVariables false

theorem results_exp {P : Program} {fn : Func} (h : fn.results = #[.tmp 4, .cell 5 26, .tmp 6]) (tmps : Array Value) {w : World} {b : Nat} {x y z : Value} (hg : Sem.run P (isAgg 26) w = .ok true w) (hz : Sem.run P (Go.sizeOf 26) w = .ok 3 w)
    (hp : tmps.getD 5 undef = .pointer (some ⟨b, 0, none⟩)) (h0 : w.cell? ⟨b, 0, none⟩ = some x) (h1 : w.cell? ⟨b, 1, none⟩ = some y) (h2 : w.cell? ⟨b, 2, none⟩ = some z) :
    (results fn tmps).run P w = .ok (.tuple #[tmps.getD 4 undef, .agg #[x, y, z], tmps.getD 6 undef]) w := by
  simp only [results, h]
  simp [Sem.run_bind, Result.andThen, loadVar, loadCells] at hp ⊢
  simp [hp, asAddr, hg, hz, loadCellsFrom, Go.WideShapes.add_plain, h0, h1, h2]

theorem three_set {w : World} {rb : Nat} {a b c : Value} {t : TypeId} (h : w.heap[rb]? = some (.cells #[a, b, c] t (0, 0))) (x y z : Value) : (((w.setCell ⟨rb, 0, none⟩ x).setCell ⟨rb, 1, none⟩ y).setCell ⟨rb, 2, none⟩ z).heap[rb]? = some (.cells #[x, y, z] t (0, 0)) := by
  have h1 : (w.setCell ⟨rb, 0, none⟩ x).heap[rb]? = some (.cells #[x, b, c] t (0, 0)) := heap_set0 h x
  have h2 : ((w.setCell ⟨rb, 0, none⟩ x).setCell ⟨rb, 1, none⟩ y).heap[rb]? = some (.cells #[x, y, c] t (0, 0)) := by rw [heap_setCell_same _ rb 1 _ _ y h1]; rfl
  exact heap_set2 h2 z

theorem three_fr {w : World} {rb : Nat} (x y z : Value) : Fr (fun k => k = rb) w (((w.setCell ⟨rb, 0, none⟩ x).setCell ⟨rb, 1, none⟩ y).setCell ⟨rb, 2, none⟩ z) :=
  ((Fr.setCell (fun k => k = rb) w ⟨rb, 0, none⟩ x rfl).trans (Fr.setCell (fun k => k = rb) _ ⟨rb, 1, none⟩ y rfl)).trans (Fr.setCell (fun k => k = rb) _ ⟨rb, 2, none⟩ z rfl)

theorem fr_new {S : Nat → Prop} {w w' : World} (h : Fr (fun k => S k ∨ w.heap.size ≤ k) w w') : Fr S w w' :=
  ⟨h.os, h.tape, h.output, h.size, fun k hk hs => h.block k hk (by rintro (e | e); exact hs e; omega)⟩

abbrev tagZ : Obj := .cells #[.int .i64 0, .int .i64 0, .int .i64 0] 26

set_option maxHeartbeats 1000000 in
set_option maxRecDepth 100000 in
theorem expire_none (S : Nat → Prop) (tb : Nat) (L : List Rec) (last now : Int) (w : World) (h : TI S w tb L last) (hno : ∀ r ∈ L, now < r.due) :
    Calls Tryz.prog 10 #[.pointer (some ⟨tb, 0, none⟩), .int .u64 now] w fun e w' => e = .returned (.tuple #[.int .i64 0, .agg #[.int .i64 0, .int .i64 0, .int .i64 0], .bool false]) ∧ Fr No w w' := by
  obtain ⟨hb, mb, sv, A, blk, cm, hX, hM⟩ := h
  have hX := hX.frNo (Fr.alloc No w tagZ)
  have c0 := hX.hcell
  have HX := Lib.hid hX
  cases hA : A with
  | nil =>
    subst hA
    clear hX hM hno
    go_enter Tryz.func10, Tryz.ntmps10
    go_wp2_with fail
    refine (min_empty hb mb sv last _ HX.out.heap).mono ?_
    rintro e w1 ⟨rfl, rfl⟩
    go_wp2_with fail
    go_region
    all_goals (
      go_wp2_with fail
      refine bodyPost_ret_by (results_exp rfl _ (b := w.heap.size) (x := .int .i64 0) (y := .int .i64 0) (z := .int .i64 0) (Tryz.isAgg26 _) (Tryz.sizeOf26 _) rfl (by simp) (by simp) (by simp)) rfl ?_
      exact ⟨rfl, ((Fr.alloc No w _).trans (Fr.alloc No _ _)).trans (Fr.drew No _)⟩)
  | cons e0 A' =>
    have h0 : A[0]? = some e0 := by rw [hA]; rfl
    obtain ⟨r, hr, he⟩ := List.mem_map.1 (hX.perm.mem_iff.1 (List.mem_of_getElem? h0))
    have hlt := hno r hr
    have HA' := Lib.hid h0
    clear hX hM hno hA h0
    subst he
    go_enter Tryz.func10, Tryz.ntmps10
    go_wp2_with fail
    refine (min_some hb mb sv A last _ _ HX.out.heap HA'.out).mono ?_
    rintro e w1 ⟨rfl, hf1⟩
    have hnb : w1.heap[w.heap.size]? = some tagZ := (hf1.block _ (by simp) (fun h => h)).trans (heap_alloc_new w _)
    have v0 : w1.cell? ⟨w.heap.size, 0, none⟩ = some (.int .i64 0) := by simp [World.cell?, hnb]
    have v1 : w1.cell? ⟨w.heap.size, 1, none⟩ = some (.int .i64 0) := by simp [World.cell?, hnb]
    have v2 : w1.cell? ⟨w.heap.size, 2, none⟩ = some (.int .i64 0) := by simp [World.cell?, hnb]
    have z0 := frozen_of_row w1 w.heap.size 0 _ _ hnb
    have z1 := frozen_of_row w1 w.heap.size 1 _ _ hnb
    have z2 := frozen_of_row w1 w.heap.size 2 _ _ hnb
    have hsz : w.heap.size < w1.heap.size := (Array.getElem?_eq_some_iff.1 hnb).1
    have H1 := Lib.hid (And.intro hf1 hnb)
    clear hf1 hnb c0
    obtain ⟨rb, hrb⟩ : ∃ rb, w.heap.size = rb := ⟨_, rfl⟩
    have HRB := Lib.hid hrb
    rw [hrb] at v0 v1 v2 z0 z1 z2 hsz ⊢
    clear hrb
    simp only [entOf]
    go_wp2_with fail
    go_region
    all_goals (
      go_wp2_with fail
      have hnb := H1.out.2
      rw [HRB.out] at hnb
      have h3 := three_set hnb (.int .i64 0) (.int .i64 0) (.int .i64 0)
      have h4 : (((((w1.setCell ⟨rb, 0, none⟩ (.int .i64 0)).setCell ⟨rb, 1, none⟩ (.int .i64 0)).setCell ⟨rb, 2, none⟩ (.int .i64 0)).alloc tagZ).drew).heap[rb]? = some tagZ := (Below.heap_alloc _ _ _ (Array.getElem?_eq_some_iff.1 h3).1).trans h3
      refine bodyPost_ret_by (results_exp rfl _ (b := rb) (x := .int .i64 0) (y := .int .i64 0) (z := .int .i64 0) (Tryz.isAgg26 _) (Tryz.sizeOf26 _) rfl (by simp [World.cell?, h4]) (by simp [World.cell?, h4]) (by simp [World.cell?, h4])) rfl ?_
      refine ⟨rfl, fr_base ?_⟩
      have hF : Fr (fun k => w.heap.size ≤ k) w w1 := ((Fr.alloc No w _).trans H1.out.1).no
      exact (hF.trans ((three_fr _ _ _).mono fun k _ hk => by rw [show k = rb from hk, ← HRB.out]; exact Nat.le_refl _)).trans ((Fr.alloc _ _ _).trans (Fr.drew _ _)))

set_option maxHeartbeats 1000000 in
set_option maxRecDepth 100000 in
theorem expire_some (S : Nat → Prop) (tb : Nat) (L : List Rec) (last now : Int) (w : World) (h : TI S w tb L last) (hsome : ∃ r ∈ L, r.due ≤ now) :
    Calls Tryz.prog 10 #[.pointer (some ⟨tb, 0, none⟩), .int .u64 now] w fun e w' => ∃ r ∈ L, r.due ≤ now ∧ (∀ r' ∈ L, r.due < r'.due ∨ (r.due = r'.due ∧ r.id ≤ r'.id)) ∧ e = .returned (.tuple #[.int .i64 r.id, r.val, .bool true]) ∧ TI S w' tb (rest L r.id) last ∧ Fr S w w' := by
  obtain ⟨S1, hS1⟩ : ∃ S1 : Nat → Prop, S1 = fun k => S k ∧ k < w.heap.size := ⟨_, rfl⟩
  have h := h.mono (T := S1) fun k hk hs => by rw [hS1]; exact ⟨hs, hk⟩
  have HS1 : Hid ((∀ k, S1 k → S k) ∧ ¬ S1 w.heap.size) := ⟨fun k hk => by rw [hS1] at hk; exact hk.1, fun hk => by rw [hS1] at hk; omega⟩
  clear hS1
  obtain ⟨hb, mb, sv, A, blk, cm, hX, hM⟩ := h
  have hX := hX.frNo (Fr.alloc No w tagZ)
  have c0 := hX.hcell
  obtain ⟨e0, h0⟩ : ∃ e0, A[0]? = some e0 := by
    obtain ⟨r, hr, _⟩ := hsome
    obtain ⟨i, hi⟩ := hX.get hr
    have hl := (List.getElem?_eq_some_iff.1 hi).1
    exact ⟨A[0]'(by omega), List.getElem?_eq_getElem _⟩
  obtain ⟨r, hr, rfl⟩ := List.mem_map.1 (hX.perm.mem_iff.1 (List.mem_of_getElem? h0))
  have hmin : ∀ r' ∈ L, r.due < r'.due ∨ (r.due = r'.due ∧ r.id ≤ r'.id) := by
    intro r' hr'
    obtain ⟨j, hj⟩ := hX.get hr'
    have := hX.ord.first h0 j _ hj
    unfold Ent.lt entOf at this
    simp only at this
    omega
  have hdue : r.due ≤ now := by
    obtain ⟨r', hr', hle⟩ := hsome
    have := hmin r' hr'
    omega
  obtain ⟨xa, xb, xc, hx⟩ := hX.val r hr
  have HX := Lib.hid (And.intro hX (And.intro hM (And.intro h0 (And.intro hr (And.intro hmin hx)))))
  clear hX hM h0 hr hmin hsome hx
  have hd2 : ¬ (now < r.due) := by omega
  go_enter Tryz.func10, Tryz.ntmps10
  go_wp2_with fail
  refine (min_some hb mb sv A last _ _ HX.out.1.heap HX.out.2.2.1).mono ?_
  rintro e w1 ⟨rfl, hf1⟩
  have H1 := Lib.hid (And.intro (HX.out.1.frNo hf1) hf1)
  clear hf1 c0
  simp only [entOf]
  go_wp2_with fail
  refine (cancel_core S1 tb hb mb sv A blk cm L last r _ H1.out.1 HX.out.2.1 HX.out.2.2.2.1).mono ?_
  rintro e w2 ⟨rfl, hT, hf2, hbk⟩
  have hnb := hbk.trans (H1.out.1.node r HX.out.2.2.2.1)
  rw [HX.out.2.2.2.2.2] at hnb
  have hnb' : w2.heap[blk r.id]? = some (.cells #[.int .i64 r.par, .map (cm r.id), .int .i64 xa, .int .i64 xb, .int .i64 xc] 53 (0, 0)) := hnb
  have v2 : w2.cell? ⟨blk r.id, 2, none⟩ = some (.int .i64 xa) := by simp [World.cell?, hnb']
  have v3 : w2.cell? ⟨blk r.id, 3, none⟩ = some (.int .i64 xb) := by simp [World.cell?, hnb']
  have v4 : w2.cell? ⟨blk r.id, 4, none⟩ = some (.int .i64 xc) := by simp [World.cell?, hnb']
  have hrz : w2.heap[w.heap.size]? = some tagZ := (hf2.block _ (Nat.lt_of_lt_of_le (by simp) H1.out.2.size) HS1.out.2).trans ((H1.out.2.block _ (by simp) (fun h => h)).trans (heap_alloc_new w _))
  have u0 : w2.cell? ⟨w.heap.size, 0, none⟩ = some (.int .i64 0) := by simp [World.cell?, hrz]
  have u1 : w2.cell? ⟨w.heap.size, 1, none⟩ = some (.int .i64 0) := by simp [World.cell?, hrz]
  have u2 : w2.cell? ⟨w.heap.size, 2, none⟩ = some (.int .i64 0) := by simp [World.cell?, hrz]
  have z0 := frozen_of_row w2 w.heap.size 0 _ _ hrz
  have z1 := frozen_of_row w2 w.heap.size 1 _ _ hrz
  have z2 := frozen_of_row w2 w.heap.size 2 _ _ hrz
  have hne : blk r.id ≠ w.heap.size := cells_ne hnb' hrz (by decide)
  have H2 := Lib.hid (And.intro hT (And.intro ((Fr.alloc No w _).trans H1.out.2) (And.intro hf2 hrz)))
  clear hT hf2 hbk hnb hnb' hrz
  obtain ⟨rb, hrb⟩ : ∃ rb, w.heap.size = rb := ⟨_, rfl⟩
  have HRB := Lib.hid hrb
  rw [hrb] at u0 u1 u2 z0 z1 z2 hne ⊢
  clear hrb
  go_wp2_with fail
  go_region
  all_goals (
    go_wp2_with fail
    obtain ⟨hT, hFw, hf2, hrz⟩ := H2.out
    rw [HRB.out] at hrz
    have h3 := three_set hrz (.int .i64 xa) (.int .i64 xb) (.int .i64 xc)
    have h4 : ((((w2.setCell ⟨rb, 0, none⟩ (.int .i64 xa)).setCell ⟨rb, 1, none⟩ (.int .i64 xb)).setCell ⟨rb, 2, none⟩ (.int .i64 xc)).drew).heap[rb]? = some (.cells #[.int .i64 xa, .int .i64 xb, .int .i64 xc] 26 (0, 0)) := h3
    refine bodyPost_ret_by (results_exp rfl _ (b := rb) (x := .int .i64 xa) (y := .int .i64 xb) (z := .int .i64 xc) (Tryz.isAgg26 _) (Tryz.sizeOf26 _) rfl (by simp [World.cell?, h4]) (by simp [World.cell?, h4]) (by simp [World.cell?, h4])) rfl ?_
    have hF3 := (three_fr (w := w2) (rb := rb) (.int .i64 xa) (.int .i64 xb) (.int .i64 xc)).trans (Fr.drew _ _)
    refine ⟨r, HX.out.2.2.2.1, hdue, HX.out.2.2.2.2.1, by rw [HX.out.2.2.2.2.2]; rfl, (hT.other hF3 fun k hk e => HS1.out.2 (by rw [HRB.out, ← show k = rb from e]; exact hk)).mono fun k _ hk => HS1.out.1 k hk, ?_⟩
    refine fr_new (((hFw.no).trans (hf2.mono fun k _ hk => .inl (HS1.out.1 k hk))).trans (hF3.mono fun k _ hk => .inr ?_))
    rw [show k = rb from hk, ← HRB.out]; exact Nat.le_refl _)

end Go.Proofs.YtbgddldkpjeieaaGreat.G
