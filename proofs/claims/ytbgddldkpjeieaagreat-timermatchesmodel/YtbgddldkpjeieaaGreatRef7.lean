/-
  CONTRACT of Expire of the reference's timers over this seat's translation.
  Conditions: the reference's timers lie in memory as RefAt says, in the form of a tree.
-/
import Derived.Test.YtbgddldkpjeieaaGreatRef6
import Derived.Test.YtbgddldkpjeieaaGreatRef5
import Derived.Test.YtbgddldkpjeieaaGreatGX
namespace Go.Proofs.YtbgddldkpjeieaaGreat
open Go.ChangeShapes Go.WideShapes Go.ChangeAt Go.RowKit Go.Maps
set_option linter.unusedVariables false

open G (tagZ results_exp three_set three_fr fr_new)

set_option maxHeartbeats 1000000 in
set_option maxRecDepth 100000 in
theorem expire_ref_empty (X : Nat → Prop) (xb : Nat) (last now : Int) (w : World) (h : Rf X w xb [] last) :
    Calls Tryz.prog 11 #[.pointer (some ⟨xb, 0, none⟩), .int .u64 now] w fun e w' => e = .returned (.tuple #[.int .i64 0, .agg #[.int .i64 0, .int .i64 0, .int .i64 0], .bool false]) ∧ Fr No w w' := by
  obtain ⟨iv, h, hwd, hX⟩ := h
  have h := h.frNo (Fr.alloc No w tagZ)
  have HS := Lib.hid (And.intro h hwd)
  clear h hwd hX
  go_enter Tryz.func11, Tryz.ntmps11
  go_wp2_with fail
  refine (first_none xb _ last _ HS.out.1 HS.out.2).mono ?_
  rintro e w1 ⟨rfl, hw1⟩
  have hz1 : w1.heap[w.heap.size]? = some tagZ := by rw [hw1]; exact heap_alloc_new w _
  have hF1 : Fr No w w1 := by rw [hw1]; exact Fr.alloc No w _
  have u0 : w1.cell? ⟨w.heap.size, 0, none⟩ = some (.int .i64 0) := by simp [World.cell?, hz1]
  have u1 : w1.cell? ⟨w.heap.size, 1, none⟩ = some (.int .i64 0) := by simp [World.cell?, hz1]
  have u2 : w1.cell? ⟨w.heap.size, 2, none⟩ = some (.int .i64 0) := by simp [World.cell?, hz1]
  have z0 := frozen_of_row w1 w.heap.size 0 _ _ hz1
  have z1 := frozen_of_row w1 w.heap.size 1 _ _ hz1
  have z2 := frozen_of_row w1 w.heap.size 2 _ _ hz1
  have H1 := Lib.hid (And.intro hz1 hF1)
  clear hw1 hz1 hF1
  obtain ⟨rb, hrb⟩ : ∃ rb, w.heap.size = rb := ⟨_, rfl⟩
  have HRB := Lib.hid hrb
  rw [hrb] at u0 u1 u2 z0 z1 z2 ⊢
  clear hrb
  go_wp2_with fail
  have hz1 := H1.out.1
  rw [HRB.out] at hz1
  have h3 := three_set hz1 (.int .i64 0) (.int .i64 0) (.int .i64 0)
  refine bodyPost_ret_by (results_exp rfl _ (b := rb) (x := .int .i64 0) (y := .int .i64 0) (z := .int .i64 0) (Tryz.isAgg26 _) (Tryz.sizeOf26 _) rfl (by simp [World.cell?, h3]) (by simp [World.cell?, h3]) (by simp [World.cell?, h3])) rfl ?_
  refine ⟨rfl, fr_base (H1.out.2.no.trans ((three_fr _ _ _).mono fun k _ hk => ?_))⟩
  rw [show k = rb from hk, ← HRB.out]; exact Nat.le_refl _

set_option maxHeartbeats 1000000 in
set_option maxRecDepth 100000 in
theorem expire_ref_none (X : Nat → Prop) (xb : Nat) (L : List Rec) (last now : Int) (r : Rec) (w : World) (h : Rf X w xb L last) (hf : Fst L r) (hlt : now < r.due) :
    Calls Tryz.prog 11 #[.pointer (some ⟨xb, 0, none⟩), .int .u64 now] w fun e w' => e = .returned (.tuple #[.int .i64 0, .agg #[.int .i64 0, .int .i64 0, .int .i64 0], .bool false]) ∧ Fr No w w' := by
  obtain ⟨iv, h, hwd, hX⟩ := h
  have h := h.frNo (Fr.alloc No w tagZ)
  have hlen := h.len
  obtain ⟨n, hn⟩ : ∃ n, L.length = n := ⟨_, rfl⟩
  obtain ⟨g, cap, rfl⟩ := h.form (List.length_pos_of_mem hf.1)
  rw [hn] at h hlen
  obtain ⟨xa, xc, xd, hv⟩ := h.val r hf.1
  have HS := Lib.hid (And.intro h (And.intro hwd (And.intro hf hn)))
  clear h hwd hX hf hn
  go_enter Tryz.func11, Tryz.ntmps11
  go_wp2_with fail
  refine (first_is xb _ L last r _ HS.out.1 HS.out.2.1 HS.out.2.2.1).mono ?_
  rintro e w1 ⟨a, ha, rfl, hw1⟩
  have hw1' := hw1.symm
  have hR1 : RefAt w1 xb (.slice (some ⟨g, 0, none⟩) n cap) L last := hw1 ▸ HS.out.1
  have hz1 : w1.heap[w.heap.size]? = some tagZ := by rw [hw1]; exact heap_alloc_new w _
  have hsz : w1.heap.size = w.heap.size + 1 := by rw [hw1]; simp
  have hF1 : Fr No w w1 := by rw [hw1]; exact Fr.alloc No w _
  have hal := (List.getElem?_eq_some_iff.1 ha).1
  rw [HS.out.2.2.2] at hal
  obtain ⟨a0, a1, a2, a3, a4, a5⟩ := hR1.ecell ha
  rw [hv, (tg_mk xa xc xd).1] at a3
  rw [hv, (tg_mk xa xc xd).2.1] at a4
  rw [hv, (tg_mk xa xc xd).2.2] at a5
  have c0 := hR1.hcell.1
  have p1 : (0 : Int) ≤ (a : Int) := by omega
  have p2 : (a : Int) < (n : Int) := by omega
  have p3 : ¬ ((a : Int) < 0) := by omega
  have u0 : w1.cell? ⟨w.heap.size, 0, none⟩ = some (.int .i64 0) := by simp [World.cell?, hz1]
  have u1 : w1.cell? ⟨w.heap.size, 1, none⟩ = some (.int .i64 0) := by simp [World.cell?, hz1]
  have u2 : w1.cell? ⟨w.heap.size, 2, none⟩ = some (.int .i64 0) := by simp [World.cell?, hz1]
  have z0 := frozen_of_row w1 w.heap.size 0 _ _ hz1
  have z1 := frozen_of_row w1 w.heap.size 1 _ _ hz1
  have z2 := frozen_of_row w1 w.heap.size 2 _ _ hz1
  have H1 := Lib.hid (And.intro hR1 (And.intro hz1 (And.intro hF1 hsz)))
  clear ha hw1 hw1' hR1 hF1 hsz hz1
  obtain ⟨rb, hrb⟩ : ∃ rb, w.heap.size = rb := ⟨_, rfl⟩
  have HRB := Lib.hid hrb
  rw [hrb] at u0 u1 u2 z0 z1 z2 ⊢
  clear hrb
  go_wp2_with fail
  refine (rdead_hit xb _ L last r _ (H1.out.1.frNo (Fr.alloc No w1 _)) HS.out.2.1 HS.out.2.2.1.1).mono ?_
  rintro e w3 ⟨d, rfl, hd, hw3⟩
  have hd' := Dl.uniq HS.out.2.1 hd (HS.out.2.2.1.dl HS.out.2.1)
  subst hd'
  have hz3 : w3.heap[rb]? = some tagZ := by
    rw [hw3, Below.heap_alloc _ _ _ (by have := H1.out.2.2.2; have := HRB.out; omega)]
    have := H1.out.2.1
    rw [HRB.out] at this
    exact this
  have v0 : w3.cell? ⟨rb, 0, none⟩ = some (.int .i64 0) := by simp [World.cell?, hz3]
  have v1 : w3.cell? ⟨rb, 1, none⟩ = some (.int .i64 0) := by simp [World.cell?, hz3]
  have v2 : w3.cell? ⟨rb, 2, none⟩ = some (.int .i64 0) := by simp [World.cell?, hz3]
  have y0 := frozen_of_row w3 rb 0 _ _ hz3
  have y1 := frozen_of_row w3 rb 1 _ _ hz3
  have y2 := frozen_of_row w3 rb 2 _ _ hz3
  have hF3 : Fr No w w3 := by rw [hw3]; exact H1.out.2.2.1.trans (Fr.alloc No _ _)
  have H3 := Lib.hid (And.intro hz3 hF3)
  clear hd hw3 hz3 hF3 u0 u1 u2 z0 z1 z2 a0 a1 a2 a3 a4 a5 c0
  go_wp2_with fail
  have h3 := three_set H3.out.1 (.int .i64 0) (.int .i64 0) (.int .i64 0)
  refine bodyPost_ret_by (results_exp rfl _ (b := rb) (x := .int .i64 0) (y := .int .i64 0) (z := .int .i64 0) (Tryz.isAgg26 _) (Tryz.sizeOf26 _) rfl (by simp [World.cell?, h3]) (by simp [World.cell?, h3]) (by simp [World.cell?, h3])) rfl ?_
  refine ⟨rfl, fr_base (H3.out.2.no.trans ((three_fr _ _ _).mono fun k _ hk => ?_))⟩
  rw [show k = rb from hk, ← HRB.out]; exact Nat.le_refl _

set_option maxHeartbeats 1000000 in
set_option maxRecDepth 100000 in
theorem expire_ref_some (X : Nat → Prop) (xb : Nat) (L : List Rec) (last now : Int) (r : Rec) (w : World) (h : Rf X w xb L last) (hf : Fst L r) (hle : r.due ≤ now) (hS : ∀ k, w.heap.size ≤ k → X k) :
    Calls Tryz.prog 11 #[.pointer (some ⟨xb, 0, none⟩), .int .u64 now] w fun e w' => e = .returned (.tuple #[.int .i64 r.id, r.val, .bool true]) ∧ Rf X w' xb (rest L r.id) last ∧ Fr X w w' := by
  obtain ⟨X1, hX1⟩ : ∃ X1 : Nat → Prop, X1 = fun k => (X k ∧ k < w.heap.size) ∨ w.heap.size + 1 < k := ⟨_, rfl⟩
  have HX1 : Hid ((∀ k, X1 k → X k) ∧ ¬ X1 w.heap.size ∧ ¬ X1 (w.heap.size + 1) ∧ (∀ k, w.heap.size + 1 < k → X1 k) ∧ ∀ k, X k → k < w.heap.size → X1 k) := by
    subst hX1
    refine ⟨?_, ?_, ?_, ?_, ?_⟩
    · rintro k (⟨h, _⟩ | h)
      · exact h
      · exact hS k (by omega)
    · rintro (⟨_, h⟩ | h) <;> omega
    · rintro (⟨_, h⟩ | h) <;> omega
    · exact fun k h => .inr h
    · exact fun k h1 h2 => .inl ⟨h1, h2⟩
  clear hX1
  obtain ⟨iv, h, hwd, hX⟩ := h
  have HOX : Hid (∀ k, OwnR xb iv k → X1 k) := fun k hk => HX1.out.2.2.2.2 k (hX k hk) (h.own_lt hk)
  have h := h.frNo (Fr.alloc No w tagZ)
  have hlen := h.len
  obtain ⟨n, hn⟩ : ∃ n, L.length = n := ⟨_, rfl⟩
  obtain ⟨g, cap, rfl⟩ := h.form (List.length_pos_of_mem hf.1)
  rw [hn] at h hlen HOX
  obtain ⟨xa, xc, xd, hv⟩ := h.val r hf.1
  have HS := Lib.hid (And.intro h (And.intro hwd (And.intro hf hn)))
  clear h hwd hX hf hn
  go_enter Tryz.func11, Tryz.ntmps11
  go_wp2_with fail
  refine (first_is xb _ L last r _ HS.out.1 HS.out.2.1 HS.out.2.2.1).mono ?_
  rintro e w1 ⟨a, ha, rfl, hw1⟩
  have hw1' := hw1.symm
  have hR1 : RefAt w1 xb (.slice (some ⟨g, 0, none⟩) n cap) L last := hw1 ▸ HS.out.1
  have hz1 : w1.heap[w.heap.size]? = some tagZ := by rw [hw1]; exact heap_alloc_new w _
  have hsz : w1.heap.size = w.heap.size + 1 := by rw [hw1]; simp
  have hF1 : Fr No w w1 := by rw [hw1]; exact Fr.alloc No w _
  have hal := (List.getElem?_eq_some_iff.1 ha).1
  rw [HS.out.2.2.2] at hal
  obtain ⟨a0, a1, a2, a3, a4, a5⟩ := hR1.ecell ha
  rw [hv, (tg_mk xa xc xd).1] at a3
  rw [hv, (tg_mk xa xc xd).2.1] at a4
  rw [hv, (tg_mk xa xc xd).2.2] at a5
  have c0 := hR1.hcell.1
  have p1 : (0 : Int) ≤ (a : Int) := by omega
  have p2 : (a : Int) < (n : Int) := by omega
  have p3 : ¬ ((a : Int) < 0) := by omega
  have u0 : w1.cell? ⟨w.heap.size, 0, none⟩ = some (.int .i64 0) := by simp [World.cell?, hz1]
  have u1 : w1.cell? ⟨w.heap.size, 1, none⟩ = some (.int .i64 0) := by simp [World.cell?, hz1]
  have u2 : w1.cell? ⟨w.heap.size, 2, none⟩ = some (.int .i64 0) := by simp [World.cell?, hz1]
  have z0 := frozen_of_row w1 w.heap.size 0 _ _ hz1
  have z1 := frozen_of_row w1 w.heap.size 1 _ _ hz1
  have z2 := frozen_of_row w1 w.heap.size 2 _ _ hz1
  have H1 := Lib.hid (And.intro hR1 (And.intro hz1 (And.intro hF1 hsz)))
  clear ha hw1 hw1' hR1 hF1 hsz hz1
  obtain ⟨rb, hrb⟩ : ∃ rb, w.heap.size = rb := ⟨_, rfl⟩
  have HRB := Lib.hid hrb
  rw [hrb] at u0 u1 u2 z0 z1 z2 ⊢
  clear hrb
  go_wp2_with fail
  refine (rdead_hit xb _ L last r _ (H1.out.1.frNo (Fr.alloc No w1 _)) HS.out.2.1 HS.out.2.2.1.1).mono ?_
  rintro e w3 ⟨d, rfl, hd, hw3⟩
  have hd' := Dl.uniq HS.out.2.1 hd (HS.out.2.2.1.dl HS.out.2.1)
  subst hd'
  have hd2 : ¬ (now < r.due) := by omega
  have hz3 : w3.heap[rb]? = some tagZ := by
    rw [hw3, Below.heap_alloc _ _ _ (by have := H1.out.2.2.2; have := HRB.out; omega)]
    have := H1.out.2.1
    rw [HRB.out] at this
    exact this
  have hs1 : w1.heap.size = rb + 1 := by have := H1.out.2.2.2; have := HRB.out; omega
  have hb3 : w3.heap[rb + 1]? = some (.cells #[.int .i64 r.id, .int .i64 r.par, .int .u64 r.due, .int .i64 xa, .int .i64 xc, .int .i64 xd] 58 (0, 0)) := by
    rw [hw3, ← hs1]; exact heap_alloc_new w1 _
  have k0 : w3.cell? ⟨rb + 1, 0, none⟩ = some (.int .i64 r.id) := by simp [World.cell?, hb3]
  have hs3 : w3.heap.size = rb + 2 := by rw [hw3]; simp; omega
  have hR3 : RefAt w3 xb (.slice (some ⟨g, 0, none⟩) n cap) L last := by rw [hw3]; exact H1.out.1.frNo (Fr.alloc No w1 _)
  have hF3 : Fr No w w3 := by rw [hw3]; exact H1.out.2.2.1.trans (Fr.alloc No _ _)
  have H3 := Lib.hid (And.intro hz3 (And.intro hb3 (And.intro hs3 (And.intro hR3 hF3))))
  clear hd hw3 hz3 hb3 hs3 hR3 hF3 u0 u1 u2 z0 z1 z2 a0 a1 a2 a3 a4 a5 c0
  rw [hs1]
  clear hs1
  go_wp2_with fail
  refine (cancel_ref X1 xb L last r _ ⟨_, H3.out.2.2.2.1, HS.out.2.1, HOX.out⟩ HS.out.2.2.1.1 (fun k hk => HX1.out.2.2.2.1 k (by have := H3.out.2.2.1; have := HRB.out; omega))).mono ?_
  rintro e w4 ⟨rfl, hT, hf4⟩
  have hlt0 : rb < w3.heap.size := by have := H3.out.2.2.1; omega
  have hlt1 : rb + 1 < w3.heap.size := by have := H3.out.2.2.1; omega
  have hz4 : w4.heap[rb]? = some tagZ := (hf4.block rb hlt0 (by rw [← HRB.out]; exact HX1.out.2.1)).trans H3.out.1
  have hb4 : w4.heap[rb + 1]? = some (.cells #[.int .i64 r.id, .int .i64 r.par, .int .u64 r.due, .int .i64 xa, .int .i64 xc, .int .i64 xd] 58 (0, 0)) := (hf4.block (rb + 1) hlt1 (by rw [← HRB.out]; exact HX1.out.2.2.1)).trans H3.out.2.1
  have v0 : w4.cell? ⟨rb, 0, none⟩ = some (.int .i64 0) := by simp [World.cell?, hz4]
  have v1 : w4.cell? ⟨rb, 1, none⟩ = some (.int .i64 0) := by simp [World.cell?, hz4]
  have v2 : w4.cell? ⟨rb, 2, none⟩ = some (.int .i64 0) := by simp [World.cell?, hz4]
  have y0 := frozen_of_row w4 rb 0 _ _ hz4
  have y1 := frozen_of_row w4 rb 1 _ _ hz4
  have y2 := frozen_of_row w4 rb 2 _ _ hz4
  have b0 : w4.cell? ⟨rb + 1, 0, none⟩ = some (.int .i64 r.id) := by simp [World.cell?, hb4]
  have b3 : w4.cell? ⟨rb + 1, 3, none⟩ = some (.int .i64 xa) := by simp [World.cell?, hb4]
  have b4 : w4.cell? ⟨rb + 1, 4, none⟩ = some (.int .i64 xc) := by simp [World.cell?, hb4]
  have b5 : w4.cell? ⟨rb + 1, 5, none⟩ = some (.int .i64 xd) := by simp [World.cell?, hb4]
  have H4 := Lib.hid (And.intro hT (And.intro hf4 hz4))
  clear hT hf4 hz4 hb4 hlt0 hlt1 k0
  go_wp2_with fail
  go_region
  all_goals (
    go_wp2_with fail
    obtain ⟨hT, hf4, hz4⟩ := H4.out
    have h3 := three_set hz4 (.int .i64 xa) (.int .i64 xc) (.int .i64 xd)
    have h4 : ((((w4.setCell ⟨rb, 0, none⟩ (.int .i64 xa)).setCell ⟨rb, 1, none⟩ (.int .i64 xc)).setCell ⟨rb, 2, none⟩ (.int .i64 xd)).drew).heap[rb]? = some (.cells #[.int .i64 xa, .int .i64 xc, .int .i64 xd] 26 (0, 0)) := h3
    refine bodyPost_ret_by (results_exp rfl _ (b := rb) (x := .int .i64 xa) (y := .int .i64 xc) (z := .int .i64 xd) (Tryz.isAgg26 _) (Tryz.sizeOf26 _) rfl (by simp [World.cell?, h4]) (by simp [World.cell?, h4]) (by simp [World.cell?, h4])) rfl ?_
    have hF5 := (three_fr (w := w4) (rb := rb) (.int .i64 xa) (.int .i64 xc) (.int .i64 xd)).trans (Fr.drew _ _)
    refine ⟨by rw [hv]; rfl, (hT.other hF5 fun k hk e => HX1.out.2.1 (by rw [HRB.out, ← show k = rb from e]; exact hk)).mono fun k _ hk => HX1.out.1 k hk, ?_⟩
    refine fr_new (((H3.out.2.2.2.2.no).trans (hf4.mono fun k _ hk => .inl (HX1.out.1 k hk))).trans (hF5.mono fun k _ hk => .inr ?_))
    rw [show k = rb from hk, ← HRB.out]; exact Nat.le_refl _)

end Go.Proofs.YtbgddldkpjeieaaGreat
