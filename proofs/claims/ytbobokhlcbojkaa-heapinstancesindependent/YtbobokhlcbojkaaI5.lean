/-
  CONTRACTS of the methods pop_empty, pop_some, remove_hit, remove_miss, at_in, at_out of the heap at one element type, over this seat's translation: what each call returns, what it leaves in memory.
  Conditions: the heap lies in memory as HeapAt says, in order.
-/
import Derived.Test.YtbobokhlcbojkaaI4
namespace Go.Proofs.Ytbobokhlcbojkaa.I
open Go.ChangeShapes Go.WideShapes Go.ChangeAt Go.RowKit Go.Maps
set_option linter.unusedVariables false

theorem pop_empty (hb mb : Nat) (sv : Value) (last : Int) (w : World) (h : HA w hb mb sv [] last) :
    Calls Try.prog 14 #[.pointer (some ⟨hb, 0, none⟩)] w fun e w' => e = .returned (.tuple #[.int .i64 0, .int .u64 0, .int .i64 0, .bool false]) ∧ w' = w := by
  have HS := Lib.hid h
  clear h
  go_enter Try.func14, Try.ntmps14
  go_wp2_with fail
  refine (min_empty hb mb sv last _ HS.out).mono ?_
  rintro e w1 ⟨rfl, rfl⟩
  go_wp2_with fail
  refine bodyPost_ret_by (by simp [results]; rfl) rfl ?_
  exact ⟨rfl, rfl⟩

set_option maxHeartbeats 1000000 in
theorem pop_some (hb mb : Nat) (sv : Value) (A : List Ent) (last : Int) (e0 : Ent) (w : World) (h : HA w hb mb sv A last) (hO : Ordered A) (h0 : A[0]? = some e0) :
    Calls Try.prog 14 #[.pointer (some ⟨hb, 0, none⟩)] w fun e w' => e = .returned (.tuple #[.int .i64 e0.id, .int .u64 e0.due, e0.val, .bool true]) ∧
      ∃ sv' A', HA w' hb mb sv' A' last ∧ (e0 :: A').Perm A ∧ Ordered A' ∧ Fr (Own hb mb sv) w w' ∧ sv'.ownBlock = sv.ownBlock := by
  obtain ⟨x, hx⟩ := h.good.val 0 e0 h0
  have HS := Lib.hid (And.intro h (And.intro hO (And.intro h0 hx)))
  rw [hx]
  clear h hO h0 hx
  go_enter Try.func14, Try.ntmps14
  go_wp2_with fail
  refine (min_some hb mb sv A last e0 _ HS.out.1 HS.out.2.2.1).mono ?_
  rw [HS.out.2.2.2]
  rintro e w1 ⟨rfl, hf1⟩
  have H1 := Lib.hid (And.intro (HS.out.1.frNo hf1) hf1)
  clear hf1
  go_wp2_with fail
  refine (removeAt_any hb mb sv A last 0 e0 _ H1.out.1 HS.out.2.1 HS.out.2.2.1).mono ?_
  rintro e w2 ⟨rfl, sv', A', h1, h2, h3, h4, h5⟩
  have H2 := Lib.hid (And.intro h1 (And.intro h2 (And.intro h3 (And.intro h4 h5))))
  clear h1 h2 h3 h4 h5
  go_wp2_with fail
  refine bodyPost_ret_by (by simp [results]; rfl) rfl ?_
  obtain ⟨h1, h2, h3, h4, h5⟩ := H2.out
  exact ⟨rfl, sv', A', h1, h2, h3, H1.out.2.no.trans h4, h5⟩

set_option maxHeartbeats 1000000 in
set_option maxRecDepth 100000 in
theorem remove_hit (hb mb : Nat) (sv : Value) (A : List Ent) (last : Int) (i : Nat) (e0 : Ent) (w : World) (h : HA w hb mb sv A last) (hO : Ordered A) (hi : A[i]? = some e0) :
    Calls Try.prog 19 #[.pointer (some ⟨hb, 0, none⟩), .int .i64 e0.id] w fun e w' => e = .returned (.bool true) ∧
      ∃ sv' A', HA w' hb mb sv' A' last ∧ (e0 :: A').Perm A ∧ Ordered A' ∧ Fr (Own hb mb sv) w w' ∧ sv'.ownBlock = sv.ownBlock := by
  have hh := h
  obtain ⟨⟨D, hr, ht⟩, hg⟩ := hh
  have wk := wf_id (hg.id i e0 hi) hg.last
  obtain ⟨c0, c1, -⟩ := hr.hcell
  have hat0 := ht.at_ i e0 hi
  have hhas := hat0.1
  have hmap := Lib.hid hr.map
  have hat1 := Lib.hid hat0.2
  have HS := Lib.hid (And.intro h (And.intro hO hi))
  clear h hr ht hg hi hat0 hO c0
  go_enter Try.func19, Try.ntmps19
  go_wp2_with (first | (at_lookup; refine wpList_lookup_own_ok_int _ rfl _ _ 72 rfl 3 3 .i64 law3 Try.underlying72 Try.underlying3 (zero3 _) mb _ D rfl hmap.out _ _ rfl (keyOf_int_mk Try.underlying3 wk) ?_; intro c hat hwc; have hc : c = (i : Int) := (by have h9 := hat.symm.trans hat1.out; simpa using h9); subst hc; clear hat) | fail)
  refine (removeAt_any hb mb _ _ _ i e0 _ HS.out.1 HS.out.2.1 HS.out.2.2).mono ?_
  rintro e w4 ⟨rfl, sv', A', h1, h2, h3, h4, h5⟩
  have H5 := Lib.hid (And.intro h1 (And.intro h2 (And.intro h3 (And.intro h4 h5))))
  clear h1 h2 h3 h4 h5
  go_wp2_with fail
  go_ret
  obtain ⟨h1, h2, h3, h4, h5⟩ := H5.out
  exact ⟨rfl, sv', A', h1, h2, h3, h4, h5⟩

set_option maxHeartbeats 1000000 in
set_option maxRecDepth 100000 in
theorem remove_miss (hb mb : Nat) (sv : Value) (A : List Ent) (last : Int) (k : Int) (w : World) (h : HA w hb mb sv A last) (hk : (Lit.int .i64 k).wf = true) (hno : ∀ (i : Nat) (e : Ent), A[i]? = some e → e.id ≠ k) :
    Calls Try.prog 19 #[.pointer (some ⟨hb, 0, none⟩), .int .i64 k] w fun e w' => e = .returned (.bool false) ∧ w' = w := by
  obtain ⟨⟨D, hr, ht⟩, hg⟩ := h
  obtain ⟨c0, c1, -⟩ := hr.hcell
  have hhas : Maps.has D (.int .i64 k) = false := by
    cases hh : Maps.has D (.int .i64 k) with
    | false => rfl
    | true => obtain ⟨i, e, hi, he⟩ := ht.only k hh; exact absurd he (hno i e hi)
  have hmap := Lib.hid hr.map
  clear hr ht hg hno
  go_enter Try.func19, Try.ntmps19
  go_wp2_with (first | (at_lookup; refine wpList_lookup_own_ok_int _ rfl _ _ 72 rfl 3 3 .i64 law3 Try.underlying72 Try.underlying3 (zero3 _) mb _ D rfl hmap.out _ _ rfl (keyOf_int_mk Try.underlying3 hk) ?_; intro c hat hwc; clear hat) | fail)
  go_ret
  exact ⟨rfl, rfl⟩

theorem at_in (hb mb : Nat) (sv : Value) (A : List Ent) (last : Int) (i : Nat) (e0 : Ent) (w : World) (h : HA w hb mb sv A last) (hi : A[i]? = some e0) :
    Calls Try.prog 51 #[.pointer (some ⟨hb, 0, none⟩), .int .i64 i] w fun e w' => e = .returned (.tuple #[.int .i64 e0.id, .bool true]) ∧ w' = w := by
  have hil : i < A.length := (List.getElem?_eq_some_iff.1 hi).1
  have hlen := h.good.len
  obtain ⟨⟨D, hr, ht⟩, hg⟩ := h
  obtain ⟨g, cap, rfl⟩ := hr.form (by omega)
  obtain ⟨c0, -, -⟩ := hr.hcell
  obtain ⟨-, a1, -⟩ := hr.ecell hi
  generalize hn : A.length = n at *
  clear hr ht hg hi hn
  have p1 : (0 : Int) ≤ (i : Int) := by omega
  have p2 : (i : Int) < (n : Int) := by omega
  have p3 : ¬ ((i : Int) < 0) := by omega
  have p4 : ¬ ((n : Int) ≤ (i : Int)) := by omega
  go_enter Try.func51, Try.ntmps51
  go_wp2
  go_ret2
  exact ⟨rfl, rfl⟩

theorem at_out (hb mb : Nat) (sv : Value) (A : List Ent) (last : Int) (i : Int) (w : World) (h : HA w hb mb sv A last) (hi : i < 0 ∨ (A.length : Int) ≤ i) :
    Calls Try.prog 51 #[.pointer (some ⟨hb, 0, none⟩), .int .i64 i] w fun e w' => e = .returned (.tuple #[.int .i64 0, .bool false]) ∧ w' = w := by
  obtain ⟨⟨D, hr, ht⟩, hg⟩ := h
  obtain ⟨c0, -, -⟩ := hr.hcell
  obtain ⟨a, cap, rfl⟩ : ∃ a cap, sv = .slice a A.length cap := by
    rcases hr.row.2 with ⟨hv, hn⟩ | ⟨g, cap, cur, hv, _⟩
    · exact ⟨none, 0, by rw [hv, hn]⟩
    · exact ⟨_, cap, hv⟩
  generalize A.length = n at *
  clear hr ht hg
  by_cases h0 : i < 0
  · clear hi
    go_enter Try.func51, Try.ntmps51
    go_wp2
    go_ret2
    exact ⟨rfl, rfl⟩
  · have h1 : (n : Int) ≤ i := by omega
    clear hi
    go_enter Try.func51, Try.ntmps51
    go_wp2
    go_ret2
    exact ⟨rfl, rfl⟩

end Go.Proofs.Ytbobokhlcbojkaa.I
