/-
  CONTRACTS of the methods update_hit, update_miss of the heap at one element type, over this seat's translation: what each call returns, what it leaves in memory.
  Conditions: the heap lies in memory as HeapAt says, in order.
-/
import Derived.Test.YtbobokhlcbojkaaS3
import Derived.Test.YtbobokhlcbojkaaOrd3
namespace Go.Proofs.Ytbobokhlcbojkaa.S
open Go.ChangeShapes Go.WideShapes Go.ChangeAt Go.RowKit Go.Maps
set_option linter.unusedVariables false

set_option maxHeartbeats 1000000 in
set_option maxRecDepth 100000 in
theorem update_hit (hb mb : Nat) (sv : Value) (A : List Ent) (last : Int) (i : Nat) (e0 : Ent) (d : Int) (w : World) (h : HA w hb mb sv A last) (hO : Ordered A) (hi : A[i]? = some e0) (hd : 0 ≤ d ∧ d ≤ 18446744073709551615) :
    Calls Try.prog 49 #[.pointer (some ⟨hb, 0, none⟩), .int .i64 e0.id, .int .u64 d] w fun e w' => e = .returned (.bool true) ∧
      ∃ A', HA w' hb mb sv A' last ∧ A'.Perm (A.set i { e0 with due := d }) ∧ Ordered A' ∧ Fr (Own hb mb sv) w w' := by
  have hil : i < A.length := (List.getElem?_eq_some_iff.1 hi).1
  have hlen := h.good.len
  obtain ⟨g, cap, rfl⟩ := h.form (by omega)
  obtain ⟨n, hn⟩ : ∃ n, A.length = n := ⟨_, rfl⟩
  rw [hn] at h hil hlen ⊢
  have hh := h
  obtain ⟨⟨D, hr, ht⟩, hg⟩ := hh
  have wk := wf_id (hg.id i e0 hi) hg.last
  obtain ⟨c0, c1, -⟩ := hr.hcell
  obtain ⟨a0, -, -⟩ := hr.ecell hi
  have f0 := hr.efrozen hn (i * 3)
  have hat0 := ht.at_ i e0 hi
  have hhas := hat0.1
  have hmap := Lib.hid hr.map
  have hat1 := Lib.hid hat0.2
  have hH2 := due_heap h hn hi hd
  have hF2 : Fr (Own hb mb (.slice (some ⟨g, 0, none⟩) n cap)) w (w.setCell ⟨g, i * 3, none⟩ (.int .u64 d)) := due_fr _ _
  have hE := ex_due hO hi { e0 with due := d }
  have HS := Lib.hid (And.intro hH2 (And.intro hF2 (And.intro hE hn)))
  have p1 : (0 : Int) ≤ (i : Int) := by omega
  have p2 : (i : Int) < (n : Int) := by omega
  clear h hr ht hg hi hn hat0 hH2 hF2 hE hO
  go_enter Try.func49, Try.ntmps49
  go_wp2_with (first | (at_lookup; refine wpList_lookup_own_ok_int _ rfl _ _ 72 rfl 3 3 .i64 law3 Try.underlying72 Try.underlying3 (zero3 _) mb _ D rfl hmap.out _ _ rfl (keyOf_int_mk Try.underlying3 wk) ?_; intro c hat hwc; have hc : c = (i : Int) := (by have h9 := hat.symm.trans hat1.out; simpa using h9); subst hc; clear hat) | fail)
  refine (restore_any hb mb _ _ _ i _ HS.out.1 (by rw [List.length_set, HS.out.2.2.2]; exact hil) HS.out.2.2.1).mono ?_
  rintro e w4 ⟨rfl, A', h1, h2, h3, h4⟩
  have H5 := Lib.hid (And.intro h1 (And.intro h2 (And.intro h3 h4)))
  clear h1 h2 h3 h4
  go_wp2_with fail
  go_ret
  obtain ⟨h1, h2, h3, h4⟩ := H5.out
  exact ⟨rfl, A', h1, h2, h3, HS.out.2.1.trans h4⟩

set_option maxHeartbeats 1000000 in
set_option maxRecDepth 100000 in
theorem update_miss (hb mb : Nat) (sv : Value) (A : List Ent) (last : Int) (k d : Int) (w : World) (h : HA w hb mb sv A last) (hk : (Lit.int .i64 k).wf = true) (hno : ∀ (i : Nat) (e : Ent), A[i]? = some e → e.id ≠ k) :
    Calls Try.prog 49 #[.pointer (some ⟨hb, 0, none⟩), .int .i64 k, .int .u64 d] w fun e w' => e = .returned (.bool false) ∧ w' = w := by
  obtain ⟨⟨D, hr, ht⟩, hg⟩ := h
  obtain ⟨c0, c1, -⟩ := hr.hcell
  have hhas : Maps.has D (.int .i64 k) = false := by
    cases hh : Maps.has D (.int .i64 k) with
    | false => rfl
    | true => obtain ⟨i, e, hi, he⟩ := ht.only k hh; exact absurd he (hno i e hi)
  have hmap := Lib.hid hr.map
  clear hr ht hg hno
  go_enter Try.func49, Try.ntmps49
  go_wp2_with (first | (at_lookup; refine wpList_lookup_own_ok_int _ rfl _ _ 72 rfl 3 3 .i64 law3 Try.underlying72 Try.underlying3 (zero3 _) mb _ D rfl hmap.out _ _ rfl (keyOf_int_mk Try.underlying3 hk) ?_; intro c hat hwc; clear hat) | fail)
  go_ret
  exact ⟨rfl, rfl⟩

end Go.Proofs.Ytbobokhlcbojkaa.S
