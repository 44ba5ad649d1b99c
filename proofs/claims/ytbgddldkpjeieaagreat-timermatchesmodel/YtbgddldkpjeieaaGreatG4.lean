/-
  CONTRACTS of the methods update_hit, update_miss, removeAt_any of the heap at one element type, over this seat's translation: what each call returns, what it leaves in memory.
  Conditions: the heap lies in memory as HeapAt says, in order.
-/
import Derived.Test.YtbgddldkpjeieaaGreatG3
import Derived.Test.YtbgddldkpjeieaaGreatOrd3
namespace Go.Proofs.YtbgddldkpjeieaaGreat.G
open Go.ChangeShapes Go.WideShapes Go.ChangeAt Go.RowKit Go.Maps
set_option linter.unusedVariables false

set_option maxHeartbeats 1000000 in
set_option maxRecDepth 100000 in
theorem update_hit (hb mb : Nat) (sv : Value) (A : List Ent) (last : Int) (i : Nat) (e0 : Ent) (d : Int) (w : World) (h : HA w hb mb sv A last) (hO : Ordered A) (hi : A[i]? = some e0) (hd : 0 ≤ d ∧ d ≤ 18446744073709551615) :
    Calls Tryz.prog 25 #[.pointer (some ⟨hb, 0, none⟩), .int .i64 e0.id, .int .u64 d] w fun e w' => e = .returned (.bool true) ∧
      ∃ A', HA w' hb mb sv A' last ∧ A'.Perm (A.set i { e0 with due := d }) ∧ Ordered A' ∧ Fr (Own hb mb sv) w w' := by
  have hil : i < A.length := (List.getElem?_eq_some_iff.1 hi).1
  have hlen := h.good.len
  obtain ⟨g, cap, rfl⟩ := h.form (by omega)
  obtain ⟨n, hn⟩ : ∃ n, A.length = n := ⟨_, rfl⟩
  rw [hn] at h hil hlen ⊢
  have hh := h
  obtain ⟨⟨D, hr, ht⟩, hg⟩ := hh
  have wk := wf_id (hg.id i e0 hi) hg.last
  obtain ⟨c0, c1, -⟩ := hr.hcell
  obtain ⟨a0, -, -⟩ := hr.ecell hi
  have f0 := hr.efrozen hn (i * 3)
  have hat0 := ht.at_ i e0 hi
  have hhas := hat0.1
  have hmap := Lib.hid hr.map
  have hat1 := Lib.hid hat0.2
  have hH2 := due_heap h hn hi hd
  have hF2 : Fr (Own hb mb (.slice (some ⟨g, 0, none⟩) n cap)) w (w.setCell ⟨g, i * 3, none⟩ (.int .u64 d)) := due_fr _ _
  have hE := ex_due hO hi { e0 with due := d }
  have HS := Lib.hid (And.intro hH2 (And.intro hF2 (And.intro hE hn)))
  have p1 : (0 : Int) ≤ (i : Int) := by omega
  have p2 : (i : Int) < (n : Int) := by omega
  clear h hr ht hg hi hn hat0 hH2 hF2 hE hO
  go_enter Tryz.func25, Tryz.ntmps25
  go_wp2_with (first | (at_lookup; refine wpList_lookup_own_ok_int _ rfl _ _ 75 rfl 3 3 .i64 law3 Tryz.underlying75 Tryz.underlying3 (zero3 _) mb _ D rfl hmap.out _ _ rfl (keyOf_int_mk Tryz.underlying3 wk) ?_; intro c hat hwc; have hc : c = (i : Int) := (by have h9 := hat.symm.trans hat1.out; simpa using h9); subst hc; clear hat) | fail)
  refine (restore_any hb mb _ _ _ i _ HS.out.1 (by rw [List.length_set, HS.out.2.2.2]; exact hil) HS.out.2.2.1).mono ?_
  rintro e w4 ⟨rfl, A', h1, h2, h3, h4⟩
  have H5 := Lib.hid (And.intro h1 (And.intro h2 (And.intro h3 h4)))
  clear h1 h2 h3 h4
  go_wp2_with fail
  go_ret
  obtain ⟨h1, h2, h3, h4⟩ := H5.out
  exact ⟨rfl, A', h1, h2, h3, HS.out.2.1.trans h4⟩

set_option maxHeartbeats 1000000 in
set_option maxRecDepth 100000 in
theorem update_miss (hb mb : Nat) (sv : Value) (A : List Ent) (last : Int) (k d : Int) (w : World) (h : HA w hb mb sv A last) (hk : (Lit.int .i64 k).wf = true) (hno : ∀ (i : Nat) (e : Ent), A[i]? = some e → e.id ≠ k) :
    Calls Tryz.prog 25 #[.pointer (some ⟨hb, 0, none⟩), .int .i64 k, .int .u64 d] w fun e w' => e = .returned (.bool false) ∧ w' = w := by
  obtain ⟨⟨D, hr, ht⟩, hg⟩ := h
  obtain ⟨c0, c1, -⟩ := hr.hcell
  have hhas : Maps.has D (.int .i64 k) = false := by
    cases hh : Maps.has D (.int .i64 k) with
    | false => rfl
    | true => obtain ⟨i, e, hi, he⟩ := ht.only k hh; exact absurd he (hno i e hi)
  have hmap := Lib.hid hr.map
  clear hr ht hg hno
  go_enter Tryz.func25, Tryz.ntmps25
  go_wp2_with (first | (at_lookup; refine wpList_lookup_own_ok_int _ rfl _ _ 75 rfl 3 3 .i64 law3 Tryz.underlying75 Tryz.underlying3 (zero3 _) mb _ D rfl hmap.out _ _ rfl (keyOf_int_mk Tryz.underlying3 hk) ?_; intro c hat hwc; clear hat) | fail)
  go_ret
  exact ⟨rfl, rfl⟩

set_option maxHeartbeats 4000000 in
set_option maxRecDepth 1000000 in
theorem removeAt_any (hb mb : Nat) (sv : Value) (A : List Ent) (last : Int) (i : Nat) (ei : Ent) (w : World) (h : HA w hb mb sv A last) (hO : Ordered A) (hi : A[i]? = some ei) :
    Calls Tryz.prog 45 #[.pointer (some ⟨hb, 0, none⟩), .int .i64 i] w fun e w' => e = .returned (.tuple #[]) ∧ ∃ sv' A', HA w' hb mb sv' A' last ∧ (ei :: A').Perm A ∧ Ordered A' ∧ Fr (Own hb mb sv) w w' ∧ sv'.ownBlock = sv.ownBlock := by
  have hil : i < A.length := (List.getElem?_eq_some_iff.1 hi).1
  have hlen := h.good.len
  obtain ⟨g, cap, rfl⟩ := h.form (by omega)
  obtain ⟨m, hm⟩ : ∃ m, A.length = m + 1 := ⟨A.length - 1, by omega⟩
  rw [hm] at h hil hlen ⊢
  obtain ⟨el, hl⟩ : ∃ e, A[m]? = some e := ⟨_, List.getElem?_eq_getElem (by omega)⟩
  have c0 : w.cell? ⟨hb, 0, none⟩ = some (.slice (some ⟨g, 0, none⟩) (m + 1) cap) := by obtain ⟨⟨D', hr', _⟩, _⟩ := h; exact hr'.hcell.1
  have hsub : ((m : Int) + 1 - 1) = (m : Int) := by omega
  have HS := Lib.hid (And.intro h (And.intro hO (And.intro hi (And.intro hl hm))))
  clear h hO hi hl hm
  go_enter Tryz.func45, Tryz.ntmps45
  go_wp2_with fail
  refine (swap_any hb mb _ A last i m ei el _ HS.out.1 HS.out.2.2.1 HS.out.2.2.2.1).mono ?_
  rintro e w1 ⟨rfl, hh1, hf1⟩
  obtain ⟨⟨D, hr, ht⟩, hg⟩ := hh1
  have hlast : (swp A i m ei el)[m]? = some ei := by rw [swp_get HS.out.2.2.1 HS.out.2.2.2.1, if_pos rfl]
  have wid := wf_id (hg.id m ei hlast) hg.last
  have HR1 := Lib.hid (And.intro hr (And.intro ht (And.intro hg (And.intro hf1 hlast))))
  clear hr ht hg hf1 hlast c0
  go_wp2_with fail
  refine region_tail 13 (by kernel_rfl) (by kernel_rfl) ?_
  intro y hy
  have HRy : Hid (Raw 78 82 y hb mb (.slice (some ⟨g, 0, none⟩) (m + 1) cap) (swp A i m ei el) last (swp A i m ei el).length D) := by subst hy; exact HR1.out.1.drew
  have HFy : Hid (Fr (Own hb mb (.slice (some ⟨g, 0, none⟩) (m + 1) cap)) w y) := by subst hy; exact HR1.out.2.2.2.1.trans (Fr.drew _ _)
  obtain ⟨c0, c1, -⟩ := HRy.out.hcell
  obtain ⟨-, a1, -⟩ := HRy.out.ecell HR1.out.2.2.2.2
  have p1 : (0 : Int) ≤ (m : Int) := by omega
  have p2 : (m : Int) < (m : Int) + 1 := by omega
  clear hy
  simp only [List.take_succ_cons, List.take_zero, List.drop_succ_cons, List.drop_zero]
  iterate 13 still_step
  refine wpStill_nil ?_
  have hgb : g ≠ hb := fun e => HRy.out.apart (by simp [Value.ownBlock, e])
  have hbg : hb ≠ g := Ne.symm hgb
  have hcap : m + 1 ≤ cap := by
    have hrow := HRy.out.row
    rw [swp_length, HS.out.2.2.2.2] at hrow
    rcases hrow.2 with ⟨h', _⟩ | ⟨g', cap', cur, h', _, _, hnc, _⟩
    · cases h'
    · cases h'; exact hnc
  have p3 : (m : Int) ≤ (cap : Int) := by omega
  have n01 : m * 3 ≠ m * 3 + 1 := by omega
  clear c0 c1 a1
  by_cases him : i < m
  · have q1 : (i : Int) < (m : Int) := by omega
    go_wp2_with (first | (at_delete; refine wpList_delete_own _ rfl _ _ 75 3 rfl 3 law3 Tryz.underlying75 _ mb _ D rfl HRy.out.map _ _ rfl (keyOf_int_mk Tryz.underlying3 wid) ?_; intro w2 hown2 hturn2; have hR2 := HRy.out.turn hown2 hturn2; have HF2 := Lib.hid (HFy.out.trans (Fr.turn hturn2)); have d0 := hR2.hcell.1; have z0 := hR2.hfrozen 0; obtain ⟨e0, e1, e2⟩ := hR2.ecell HR1.out.2.2.2.2; have y0 := hR2.efrozen (by rw [swp_length]; exact HS.out.2.2.2.2) (m * 3); have y1 := hR2.efrozen (by rw [swp_length]; exact HS.out.2.2.2.2) (m * 3 + 1); have y2 := hR2.efrozen (by rw [swp_length]; exact HS.out.2.2.2.2) (m * 3 + 2); have HR2 := Lib.hid hR2; clear hown2 hturn2 hR2) | fail)
    obtain ⟨hr1, ht1, hg1, hf1, hl1⟩ := HR1.out
    obtain ⟨h, hO, hi, hl, hm⟩ := HS.out
    have hH3 := cut_heap (Z := .pointer none) HR2.out ht1 hg1 hi hl hm
    have hF3 := cut_fr (o1 := m * 3) (o2 := m * 3 + 1) (o3 := m * 3 + 2) (a := .int .u64 0) (b := .int .i64 0) (c := .pointer none) (v := .slice (some ⟨g, 0, none⟩) m cap) HF2.out
    have hE := ex_of_agree (i := i) hO (cut_agree hi hl)
    have hp := cut_perm hi hl hm
    revert hH3 hF3
    generalize (((w2.setCell ⟨g, m * 3, none⟩ (.int .u64 0)).setCell ⟨g, m * 3 + 1, none⟩ (.int .i64 0)).setCell ⟨g, m * 3 + 2, none⟩ (.pointer none)).setCell ⟨hb, 0, none⟩ (.slice (some ⟨g, 0, none⟩) m cap) = w3
    intro hH3 hF3
    have HH := Lib.hid (And.intro hH3 (And.intro hF3 (And.intro hE hp)))
    clear hr1 ht1 hg1 hf1 hl1 h hO hi hl hm hH3 hF3 hE hp d0 z0 e0 e1 e2 y0 y1 y2 HR2 HF2
    have hlt : i < ((swp A i m ei el).take m).length := by rw [List.length_take, swp_length, HS.out.2.2.2.2]; omega
    refine (restore_any hb mb _ _ _ i _ HH.out.1 hlt HH.out.2.2.1).mono ?_
    rintro e w4 ⟨rfl, A', h1, h2, h3, h4⟩
    have H5 := Lib.hid (And.intro h1 (And.intro h2 (And.intro h3 h4)))
    clear h1 h2 h3 h4
    go_wp2_with fail
    go_end0
    obtain ⟨h1, h2, h3, h4⟩ := H5.out
    rw [own_eq (sv' := .slice (some ⟨g, 0, none⟩) m cap) (sv := .slice (some ⟨g, 0, none⟩) (m + 1) cap) rfl] at h4
    exact ⟨rfl, _, A', h1, (h2.cons ei).trans HH.out.2.2.2, h3, HH.out.2.1.trans h4, rfl⟩
  · have q1 : ¬ ((i : Int) < (m : Int)) := by omega
    have q2 : m ≤ i := by omega
    go_wp2_with (first | (at_delete; refine wpList_delete_own _ rfl _ _ 75 3 rfl 3 law3 Tryz.underlying75 _ mb _ D rfl HRy.out.map _ _ rfl (keyOf_int_mk Tryz.underlying3 wid) ?_; intro w2 hown2 hturn2; have hR2 := HRy.out.turn hown2 hturn2; have HF2 := Lib.hid (HFy.out.trans (Fr.turn hturn2)); have d0 := hR2.hcell.1; have z0 := hR2.hfrozen 0; obtain ⟨e0, e1, e2⟩ := hR2.ecell HR1.out.2.2.2.2; have y0 := hR2.efrozen (by rw [swp_length]; exact HS.out.2.2.2.2) (m * 3); have y1 := hR2.efrozen (by rw [swp_length]; exact HS.out.2.2.2.2) (m * 3 + 1); have y2 := hR2.efrozen (by rw [swp_length]; exact HS.out.2.2.2.2) (m * 3 + 2); have HR2 := Lib.hid hR2; clear hown2 hturn2 hR2) | fail)
    go_end0
    obtain ⟨hr1, ht1, hg1, hf1, hl1⟩ := HR1.out
    obtain ⟨h, hO, hi, hl, hm⟩ := HS.out
    have hH3 := cut_heap (Z := .pointer none) HR2.out ht1 hg1 hi hl hm
    have hF3 := cut_fr (o1 := m * 3) (o2 := m * 3 + 1) (o3 := m * 3 + 2) (a := .int .u64 0) (b := .int .i64 0) (c := .pointer none) (v := .slice (some ⟨g, 0, none⟩) m cap) HF2.out
    refine ⟨rfl, _, _, hH3, cut_perm hi hl hm, ?_, hF3, rfl⟩
    refine ordered_of_agree hO fun k b hb' => ?_
    have hk := (take_get hb').1
    exact cut_agree hi hl k b (by omega) hb'

end Go.Proofs.YtbgddldkpjeieaaGreat.G
