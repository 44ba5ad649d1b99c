/-
  CONTRACTS of the methods remove_hit, remove_miss, get_hit, get_miss of the heap at one element type, over this seat's translation: what each call returns, what it leaves in memory.
  Conditions: the heap lies in memory as HeapAt says, in order.
-/
import Derived.Test.YtbgddldkpjeieaaGreatG4
namespace Go.Proofs.YtbgddldkpjeieaaGreat.G
open Go.ChangeShapes Go.WideShapes Go.ChangeAt Go.RowKit Go.Maps
set_option linter.unusedVariables false

set_option maxHeartbeats 1000000 in
set_option maxRecDepth 100000 in
theorem remove_hit (hb mb : Nat) (sv : Value) (A : List Ent) (last : Int) (i : Nat) (e0 : Ent) (w : World) (h : HA w hb mb sv A last) (hO : Ordered A) (hi : A[i]? = some e0) :
    Calls Tryz.prog 27 #[.pointer (some ⟨hb, 0, none⟩), .int .i64 e0.id] w fun e w' => e = .returned (.bool true) ∧
      ∃ sv' A', HA w' hb mb sv' A' last ∧ (e0 :: A').Perm A ∧ Ordered A' ∧ Fr (Own hb mb sv) w w' ∧ sv'.ownBlock = sv.ownBlock := by
  have hh := h
  obtain ⟨⟨D, hr, ht⟩, hg⟩ := hh
  have wk := wf_id (hg.id i e0 hi) hg.last
  obtain ⟨c0, c1, -⟩ := hr.hcell
  have hat0 := ht.at_ i e0 hi
  have hhas := hat0.1
  have hmap := Lib.hid hr.map
  have hat1 := Lib.hid hat0.2
  have HS := Lib.hid (And.intro h (And.intro hO hi))
  clear h hr ht hg hi hat0 hO c0
  go_enter Tryz.func27, Tryz.ntmps27
  go_wp2_with (first | (at_lookup; refine wpList_lookup_own_ok_int _ rfl _ _ 75 rfl 3 3 .i64 law3 Tryz.underlying75 Tryz.underlying3 (zero3 _) mb _ D rfl hmap.out _ _ rfl (keyOf_int_mk Tryz.underlying3 wk) ?_; intro c hat hwc; have hc : c = (i : Int) := (by have h9 := hat.symm.trans hat1.out; simpa using h9); subst hc; clear hat) | fail)
  refine (removeAt_any hb mb _ _ _ i e0 _ HS.out.1 HS.out.2.1 HS.out.2.2).mono ?_
  rintro e w4 ⟨rfl, sv', A', h1, h2, h3, h4, h5⟩
  have H5 := Lib.hid (And.intro h1 (And.intro h2 (And.intro h3 (And.intro h4 h5))))
  clear h1 h2 h3 h4 h5
  go_wp2_with fail
  go_ret
  obtain ⟨h1, h2, h3, h4, h5⟩ := H5.out
  exact ⟨rfl, sv', A', h1, h2, h3, h4, h5⟩

set_option maxHeartbeats 1000000 in
set_option maxRecDepth 100000 in
theorem remove_miss (hb mb : Nat) (sv : Value) (A : List Ent) (last : Int) (k : Int) (w : World) (h : HA w hb mb sv A last) (hk : (Lit.int .i64 k).wf = true) (hno : ∀ (i : Nat) (e : Ent), A[i]? = some e → e.id ≠ k) :
    Calls Tryz.prog 27 #[.pointer (some ⟨hb, 0, none⟩), .int .i64 k] w fun e w' => e = .returned (.bool false) ∧ w' = w := by
  obtain ⟨⟨D, hr, ht⟩, hg⟩ := h
  obtain ⟨c0, c1, -⟩ := hr.hcell
  have hhas : Maps.has D (.int .i64 k) = false := by
    cases hh : Maps.has D (.int .i64 k) with
    | false => rfl
    | true => obtain ⟨i, e, hi, he⟩ := ht.only k hh; exact absurd he (hno i e hi)
  have hmap := Lib.hid hr.map
  clear hr ht hg hno
  go_enter Tryz.func27, Tryz.ntmps27
  go_wp2_with (first | (at_lookup; refine wpList_lookup_own_ok_int _ rfl _ _ 75 rfl 3 3 .i64 law3 Tryz.underlying75 Tryz.underlying3 (zero3 _) mb _ D rfl hmap.out _ _ rfl (keyOf_int_mk Tryz.underlying3 hk) ?_; intro c hat hwc; clear hat) | fail)
  go_ret
  exact ⟨rfl, rfl⟩

set_option maxHeartbeats 1000000 in
set_option maxRecDepth 100000 in
theorem get_hit (hb mb : Nat) (sv : Value) (A : List Ent) (last : Int) (i : Nat) (e0 : Ent) (w : World) (h : HA w hb mb sv A last) (hi : A[i]? = some e0) :
    Calls Tryz.prog 20 #[.pointer (some ⟨hb, 0, none⟩), .int .i64 e0.id] w fun e w' => e = .returned (.tuple #[.int .u64 e0.due, e0.val, .bool true]) ∧ Fr No w w' := by
  have hil : i < A.length := (List.getElem?_eq_some_iff.1 hi).1
  have hlen := h.good.len
  obtain ⟨⟨D, hr, ht⟩, hg⟩ := h
  obtain ⟨g, cap, rfl⟩ := hr.form (by omega)
  have wk := wf_id (hg.id i e0 hi) hg.last
  obtain ⟨c0, c1, -⟩ := hr.hcell
  obtain ⟨a0, a1, a2⟩ := hr.ecell hi
  obtain ⟨x, hx⟩ := hg.val i e0 hi
  rw [hx] at a2 ⊢
  have hat0 := ht.at_ i e0 hi
  have hhas := hat0.1
  have hmap := Lib.hid hr.map
  have hat1 := Lib.hid hat0.2
  generalize hn : A.length = n at *
  have p1 : (0 : Int) ≤ (i : Int) := by omega
  have p2 : (i : Int) < (n : Int) := by omega
  clear hr ht hg hi hat0 hn hx
  go_enter Tryz.func20, Tryz.ntmps20
  go_wp2_with (first | (at_lookup; refine wpList_lookup_own_ok_int _ rfl _ _ 75 rfl 3 3 .i64 law3 Tryz.underlying75 Tryz.underlying3 (zero3 _) mb _ D rfl hmap.out _ _ rfl (keyOf_int_mk Tryz.underlying3 wk) ?_; intro c hat hwc; have hc : c = (i : Int) := (by have h9 := hat.symm.trans hat1.out; simpa using h9); subst hc; clear hat) | fail)
  go_quiet (fail)
  go_wp2
  refine bodyPost_ret_by (by simp [results]; rfl) rfl ?_
  refine ⟨rfl, ?_⟩
  first
    | exact ((Fr.alloc No w _).trans ⟨rfl, rfl, rfl, Nat.le_refl _, fun _ _ _ => rfl⟩)
    | (refine Fr.trans (b := w.alloc _) (Fr.alloc No w _) ?_; exact ⟨rfl, rfl, rfl, by simp, fun k hk _ => by simp⟩)

set_option maxHeartbeats 1000000 in
set_option maxRecDepth 100000 in
theorem get_miss (hb mb : Nat) (sv : Value) (A : List Ent) (last : Int) (k : Int) (w : World) (h : HA w hb mb sv A last) (hk : (Lit.int .i64 k).wf = true) (hno : ∀ (i : Nat) (e : Ent), A[i]? = some e → e.id ≠ k) :
    Calls Tryz.prog 20 #[.pointer (some ⟨hb, 0, none⟩), .int .i64 k] w fun e w' => e = .returned (.tuple #[.int .u64 0, .pointer none, .bool false]) ∧ w' = w := by
  obtain ⟨⟨D, hr, ht⟩, hg⟩ := h
  obtain ⟨c0, c1, -⟩ := hr.hcell
  have hhas : Maps.has D (.int .i64 k) = false := by
    cases hh : Maps.has D (.int .i64 k) with
    | false => rfl
    | true => obtain ⟨i, e, hi, he⟩ := ht.only k hh; exact absurd he (hno i e hi)
  have hmap := Lib.hid hr.map
  clear hr ht hg hno
  go_enter Tryz.func20, Tryz.ntmps20
  go_wp2_with (first | (at_lookup; refine wpList_lookup_own_ok_int _ rfl _ _ 75 rfl 3 3 .i64 law3 Tryz.underlying75 Tryz.underlying3 (zero3 _) mb _ D rfl hmap.out _ _ rfl (keyOf_int_mk Tryz.underlying3 hk) ?_; intro c hat hwc; clear hat) | fail)
  refine bodyPost_ret_by (by simp [results]; rfl) rfl ?_
  exact ⟨rfl, rfl⟩

end Go.Proofs.YtbgddldkpjeieaaGreat.G
