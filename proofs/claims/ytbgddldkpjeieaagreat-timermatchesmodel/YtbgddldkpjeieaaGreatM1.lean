/-
  CONTRACTS of precedes and swap of the heap at one element type, over this seat's translation: what each call returns, what it leaves in memory.
  Conditions: the heap lies in memory as HeapAt says; the indices are in range.
-/
import Derived.Test.YtbgddldkpjeieaaGreatState
import Derived.BigRegion
import Derived.BigQuiet
import Derived.Deep.QuietTactic
import Derived.Deep.LoopGhost
import Derived.Test.YtbgddldkpjeieaaGreatOrd
namespace Go.Proofs.YtbgddldkpjeieaaGreat.M
open Go.ChangeShapes Go.WideShapes Go.ChangeAt Go.RowKit Go.Maps
set_option linter.unusedVariables false

def V (v : Value) : Prop := ∃ x : Option Addr, v = Value.pointer x

abbrev HA := HeapAt V 109 111

set_option maxHeartbeats 1000000 in
set_option maxRecDepth 100000 in
theorem precedes_any (hb mb : Nat) (sv : Value) (A : List Ent) (last : Int) (i j : Nat) (ei ej : Ent) (w : World) (h : HA w hb mb sv A last) (hi : A[i]? = some ei) (hj : A[j]? = some ej) :
    Calls Tryz.prog 82 #[.pointer (some ⟨hb, 0, none⟩), .int .i64 i, .int .i64 j] w fun e w' => e = .returned (.bool (decide (ei.lt ej))) ∧ Fr No w w' := by
  have hil : i < A.length := (List.getElem?_eq_some_iff.1 hi).1
  have hjl : j < A.length := (List.getElem?_eq_some_iff.1 hj).1
  have hlen := h.good.len
  obtain ⟨⟨D, hr, ht⟩, hg⟩ := h
  obtain ⟨g, cap, rfl⟩ := hr.form (by omega)
  obtain ⟨c0, -, -⟩ := hr.hcell
  obtain ⟨a0, a1, -⟩ := hr.ecell hi
  obtain ⟨b0, b1, -⟩ := hr.ecell hj
  generalize hn : A.length = n at *
  clear hr ht hg hi hj hn
  have p1 : (0 : Int) ≤ (i : Int) := by omega
  have p2 : (i : Int) < (n : Int) := by omega
  have p3 : (0 : Int) ≤ (j : Int) := by omega
  have p4 : (j : Int) < (n : Int) := by omega
  go_enter Tryz.func82, Tryz.ntmps82
  go_wp2
  refine region_tail 16 (by kernel_rfl) (by kernel_rfl) ?_
  intro y hy
  have HY := Lib.hid hy
  have c0' : y.cell? ⟨hb, 0, none⟩ = some (.slice (some ⟨g, 0, none⟩) n cap) := by subst hy; exact c0
  have a0' : y.cell? ⟨g, i * 3, none⟩ = some (.int .u64 ei.due) := by subst hy; exact a0
  have a1' : y.cell? ⟨g, i * 3 + 1, none⟩ = some (.int .i64 ei.id) := by subst hy; exact a1
  have b0' : y.cell? ⟨g, j * 3, none⟩ = some (.int .u64 ej.due) := by subst hy; exact b0
  have b1' : y.cell? ⟨g, j * 3 + 1, none⟩ = some (.int .i64 ej.id) := by subst hy; exact b1
  clear hy c0 a0 a1 b0 b1
  simp only [List.take_succ_cons, List.take_zero, List.drop_succ_cons, List.drop_zero]
  iterate 16 still_step
  refine wpStill_nil ?_
  clear c0' a0' a1' b0' b1' p1 p2 p3 p4
  have HL := Lib.hid (lex_lt ei ej)
  go_wp2_with (go_at_call 63; refine (compare_any ei.due ei.id ej.due ej.id _).mono ?_; rintro e w' ⟨rfl, q, os', hw'⟩; have HW := Lib.hid hw'; clear hw')
  go_ret
  refine ⟨?_, ?_⟩
  · rw [← HL.out]; rfl
  · rw [HW.out, HY.out]; exact (Fr.drew No w).trans (Fr.grow _ _ _)

set_option maxHeartbeats 4000000 in
set_option maxRecDepth 1000000 in
theorem swap_ne (hb mb : Nat) (sv : Value) (A : List Ent) (last : Int) (i j : Nat) (ei ej : Ent) (w : World) (h : HA w hb mb sv A last) (hi : A[i]? = some ei) (hj : A[j]? = some ej) (hij : i ≠ j) :
    Calls Tryz.prog 83 #[.pointer (some ⟨hb, 0, none⟩), .int .i64 i, .int .i64 j] w fun e w' => e = .returned (.tuple #[]) ∧ HA w' hb mb sv (swp A i j ei ej) last ∧ Fr (Own hb mb sv) w w' := by
  have hil : i < A.length := (List.getElem?_eq_some_iff.1 hi).1
  have hjl : j < A.length := (List.getElem?_eq_some_iff.1 hj).1
  have hlen := h.good.len
  obtain ⟨⟨D, hr, ht⟩, hg⟩ := h
  obtain ⟨g, cap, rfl⟩ := hr.form (by omega)
  have hgb : g ≠ hb := fun e => hr.apart (by simp [Value.ownBlock, e])
  have hbg : hb ≠ g := Ne.symm hgb
  obtain ⟨c0, c1, -⟩ := hr.hcell
  obtain ⟨a0, a1, a2⟩ := hr.ecell hi
  obtain ⟨b0, b1, b2⟩ := hr.ecell hj
  obtain ⟨xi, vi⟩ := hg.val i ei hi
  obtain ⟨xj, vj⟩ := hg.val j ej hj
  rw [vi] at a2
  rw [vj] at b2
  have fz := fun j => hr.efrozen rfl j
  have fi0 := fz (i * 3)
  have fi1 := fz (i * 3 + 1)
  have fi2 := fz (i * 3 + 2)
  have fj0 := fz (j * 3)
  have fj1 := fz (j * 3 + 1)
  have fj2 := fz (j * 3 + 2)
  have wi := wf_id (hg.id i ei hi) hg.last
  have wj := wf_id (hg.id j ej hj) hg.last
  clear fz
  generalize hn : A.length = n at *
  have H := Lib.hid (And.intro hr (And.intro ht (And.intro hg (And.intro hi (And.intro hj (And.intro hn (And.intro vi vj)))))))
  clear hr ht hg hi hj hn vi vj
  have p1 : (0 : Int) ≤ (i : Int) := by omega
  have p2 : (i : Int) < (n : Int) := by omega
  have p3 : (0 : Int) ≤ (j : Int) := by omega
  have p4 : (j : Int) < (n : Int) := by omega
  have n00 : i * 3 ≠ j * 3 := by omega
  have n01 : i * 3 ≠ j * 3 + 1 := by omega
  have n02 : i * 3 ≠ j * 3 + 2 := by omega
  have n10 : i * 3 + 1 ≠ j * 3 := by omega
  have n12 : i * 3 + 1 ≠ j * 3 + 2 := by omega
  have n20 : i * 3 + 2 ≠ j * 3 := by omega
  have n21 : i * 3 + 2 ≠ j * 3 + 1 := by omega
  go_enter Tryz.func83, Tryz.ntmps83
  go_wp2_with fail
  go_big_region
  clear n00 n01 n02 n10 n12 n20 n21 fi0 fi1 fi2 fj0 fj1 fj2 c0 c1 a0 a1 a2 b0 b1 b2
  obtain ⟨hr, ht, hg, hi, hj, hn, vi, vj⟩ := H.out
  have hR := swap_raw hr hn hi hj
  rw [vi, vj] at hR
  have hF := swap_fr w hb mb g n cap i j ei.due ei.id ej.due ej.id (Value.pointer xi) (Value.pointer xj)
  revert hR hF
  generalize (((((w.setCell ⟨g, i * 3, none⟩ (.int .u64 ej.due)).setCell ⟨g, i * 3 + 1, none⟩ (.int .i64 ej.id)).setCell ⟨g, i * 3 + 2, none⟩ (Value.pointer xj)).setCell ⟨g, j * 3, none⟩ (.int .u64 ei.due)).setCell ⟨g, j * 3 + 1, none⟩ (.int .i64 ei.id)).setCell ⟨g, j * 3 + 2, none⟩ (Value.pointer xi) = w1
  intro hR hF
  have hF1 := hF.trans (Fr.drew _ w1)
  replace hR := hR.drew
  clear hF
  revert hR hF1
  generalize w1.drew = w2
  intro hF1 hR
  have si : (swp A i j ei ej)[i]? = some ej := by rw [swp_get hi hj, if_neg hij, if_pos rfl]
  have sj : (swp A i j ei ej)[j]? = some ei := by rw [swp_get hi hj, if_pos rfl]
  have hS := Lib.hid (And.intro si sj)
  clear hr ht hg hi hj hn vi vj si sj
  have HR := Lib.hid hR
  have HF1 := Lib.hid hF1
  clear hR hF1
  go_wp2_with fail
  refine region_tail 14 (by kernel_rfl) (by kernel_rfl) ?_
  intro y hy
  have HRy : Hid (Raw 109 111 y hb mb (.slice (some ⟨g, 0, none⟩) n cap) (swp A i j ei ej) last n D) := by subst hy; exact HR.out.drew
  have HFy : Hid (Fr (Own hb mb (.slice (some ⟨g, 0, none⟩) n cap)) w y) := by subst hy; exact HF1.out.trans (Fr.drew _ _)
  obtain ⟨c0, c1, -⟩ := HRy.out.hcell
  obtain ⟨-, a1, -⟩ := HRy.out.ecell hS.out.1
  clear HR HF1 hy
  simp only [List.take_succ_cons, List.take_zero, List.drop_succ_cons, List.drop_zero]
  iterate 14 still_step
  refine wpStill_nil ?_
  go_wp2_with (at_mapUpdate; refine wpList_mapUpdate_in _ rfl _ _ _ 75 rfl 3 3 law3 Tryz.underlying75 _ mb n D rfl HRy.out.map (by unfold maxLen; omega) _ _ _ rfl rfl (keyOf_int_mk Tryz.underlying3 wj) _ [] (plainElem_int Tryz.underlying3 (wf_nat hlen hil)) ?_; intro w3 hown3 hturn3)
  have HR3 := Lib.hid (HRy.out.turn hown3 hturn3)
  have HF3 := Lib.hid (HFy.out.trans (Fr.turn hturn3))
  clear hown3 hturn3 c0 c1 a1 HRy HFy
  go_wp2_with fail
  refine region_tail 14 (by kernel_rfl) (by kernel_rfl) ?_
  intro z hz
  have HRz : Hid (Raw 109 111 z hb mb (.slice (some ⟨g, 0, none⟩) n cap) (swp A i j ei ej) last (n + 1) (D.put (key ej.id) (lit i))) := by subst hz; exact HR3.out.drew
  have HFz : Hid (Fr (Own hb mb (.slice (some ⟨g, 0, none⟩) n cap)) w z) := by subst hz; exact HF3.out.trans (Fr.drew _ _)
  obtain ⟨c0, c1, -⟩ := HRz.out.hcell
  obtain ⟨-, a1, -⟩ := HRz.out.ecell hS.out.2
  clear HR3 HF3 hz
  simp only [List.take_succ_cons, List.take_zero, List.drop_succ_cons, List.drop_zero]
  iterate 14 still_step
  refine wpStill_nil ?_
  go_wp2_with (at_mapUpdate; refine wpList_mapUpdate_in _ rfl _ _ _ 75 rfl 3 3 law3 Tryz.underlying75 _ mb (n + 1) _ rfl HRz.out.map (by unfold maxLen; omega) _ _ _ rfl rfl (keyOf_int_mk Tryz.underlying3 wi) _ [] (plainElem_int Tryz.underlying3 (wf_nat hlen hjl)) ?_; intro w4 hown4 hturn4)
  have HR4 := Lib.hid (HRz.out.turn hown4 hturn4)
  have HF4 := Lib.hid (HFz.out.trans (Fr.turn hturn4))
  clear hown4 hturn4 c0 c1 a1 HRz HFz
  go_end0
  obtain ⟨hr, ht, hg, hi, hj, hn, vi, vj⟩ := H.out
  refine ⟨rfl, ⟨⟨_, ?_, ht.swap hi hj⟩, hg.swap hi hj⟩, HF4.out⟩
  have h4 := HR4.out
  exact { h4 with map := ownsMap_tight h4.map (ht.swap hi hj).size }
set_option maxHeartbeats 4000000 in
set_option maxRecDepth 1000000 in
theorem swap_eq (hb mb : Nat) (sv : Value) (A : List Ent) (last : Int) (i : Nat) (ei : Ent) (w : World) (h : HA w hb mb sv A last) (hi : A[i]? = some ei) :
    Calls Tryz.prog 83 #[.pointer (some ⟨hb, 0, none⟩), .int .i64 i, .int .i64 i] w fun e w' => e = .returned (.tuple #[]) ∧ HA w' hb mb sv (swp A i i ei ei) last ∧ Fr (Own hb mb sv) w w' := by
  have hil : i < A.length := (List.getElem?_eq_some_iff.1 hi).1
  have hlen := h.good.len
  obtain ⟨⟨D, hr, ht⟩, hg⟩ := h
  obtain ⟨g, cap, rfl⟩ := hr.form (by omega)
  have hgb : g ≠ hb := fun e => hr.apart (by simp [Value.ownBlock, e])
  have hbg : hb ≠ g := Ne.symm hgb
  obtain ⟨c0, c1, -⟩ := hr.hcell
  obtain ⟨a0, a1, a2⟩ := hr.ecell hi
  obtain ⟨xi, vi⟩ := hg.val i ei hi
  rw [vi] at a2
  have fz := fun j => hr.efrozen rfl j
  have fi0 := fz (i * 3)
  have fi1 := fz (i * 3 + 1)
  have fi2 := fz (i * 3 + 2)
  have wi := wf_id (hg.id i ei hi) hg.last
  clear fz
  generalize hn : A.length = n at *
  have H := Lib.hid (And.intro hr (And.intro ht (And.intro hg (And.intro hi (And.intro hn vi)))))
  clear hr ht hg hi hn vi
  have p1 : (0 : Int) ≤ (i : Int) := by omega
  have p2 : (i : Int) < (n : Int) := by omega
  go_enter Tryz.func83, Tryz.ntmps83
  go_wp2_with fail
  go_big_region
  clear fi0 fi1 fi2 c0 c1 a0 a1 a2
  obtain ⟨hr, ht, hg, hi, hn, vi⟩ := H.out
  have hR := swap_raw hr hn hi hi
  rw [vi] at hR
  have hF := swap_fr w hb mb g n cap i i ei.due ei.id ei.due ei.id (Value.pointer xi) (Value.pointer xi)
  revert hR hF
  generalize (((((w.setCell ⟨g, i * 3, none⟩ (.int .u64 ei.due)).setCell ⟨g, i * 3 + 1, none⟩ (.int .i64 ei.id)).setCell ⟨g, i * 3 + 2, none⟩ (Value.pointer xi)).setCell ⟨g, i * 3, none⟩ (.int .u64 ei.due)).setCell ⟨g, i * 3 + 1, none⟩ (.int .i64 ei.id)).setCell ⟨g, i * 3 + 2, none⟩ (Value.pointer xi) = w1
  intro hR hF
  have hF1 := hF.trans (Fr.drew _ w1)
  replace hR := hR.drew
  clear hF
  revert hR hF1
  generalize w1.drew = w2
  intro hF1 hR
  have si : (swp A i i ei ei)[i]? = some ei := by rw [swp_get hi hi, if_pos rfl]
  have hS := Lib.hid (And.intro si si)
  clear hr ht hg hi hn vi si
  have HR := Lib.hid hR
  have HF1 := Lib.hid hF1
  clear hR hF1
  go_wp2_with fail
  refine region_tail 14 (by kernel_rfl) (by kernel_rfl) ?_
  intro y hy
  have HRy : Hid (Raw 109 111 y hb mb (.slice (some ⟨g, 0, none⟩) n cap) (swp A i i ei ei) last n D) := by subst hy; exact HR.out.drew
  have HFy : Hid (Fr (Own hb mb (.slice (some ⟨g, 0, none⟩) n cap)) w y) := by subst hy; exact HF1.out.trans (Fr.drew _ _)
  obtain ⟨c0, c1, -⟩ := HRy.out.hcell
  obtain ⟨-, a1, -⟩ := HRy.out.ecell hS.out.1
  clear HR HF1 hy
  simp only [List.take_succ_cons, List.take_zero, List.drop_succ_cons, List.drop_zero]
  iterate 14 still_step
  refine wpStill_nil ?_
  go_wp2_with (at_mapUpdate; refine wpList_mapUpdate_in _ rfl _ _ _ 75 rfl 3 3 law3 Tryz.underlying75 _ mb n D rfl HRy.out.map (by unfold maxLen; omega) _ _ _ rfl rfl (keyOf_int_mk Tryz.underlying3 wi) _ [] (plainElem_int Tryz.underlying3 (wf_nat hlen hil)) ?_; intro w3 hown3 hturn3)
  have HR3 := Lib.hid (HRy.out.turn hown3 hturn3)
  have HF3 := Lib.hid (HFy.out.trans (Fr.turn hturn3))
  clear hown3 hturn3 c0 c1 a1 HRy HFy
  go_wp2_with fail
  refine region_tail 14 (by kernel_rfl) (by kernel_rfl) ?_
  intro z hz
  have HRz : Hid (Raw 109 111 z hb mb (.slice (some ⟨g, 0, none⟩) n cap) (swp A i i ei ei) last (n + 1) (D.put (key ei.id) (lit i))) := by subst hz; exact HR3.out.drew
  have HFz : Hid (Fr (Own hb mb (.slice (some ⟨g, 0, none⟩) n cap)) w z) := by subst hz; exact HF3.out.trans (Fr.drew _ _)
  obtain ⟨c0, c1, -⟩ := HRz.out.hcell
  obtain ⟨-, a1, -⟩ := HRz.out.ecell hS.out.2
  clear HR3 HF3 hz
  simp only [List.take_succ_cons, List.take_zero, List.drop_succ_cons, List.drop_zero]
  iterate 14 still_step
  refine wpStill_nil ?_
  go_wp2_with (at_mapUpdate; refine wpList_mapUpdate_in _ rfl _ _ _ 75 rfl 3 3 law3 Tryz.underlying75 _ mb (n + 1) _ rfl HRz.out.map (by unfold maxLen; omega) _ _ _ rfl rfl (keyOf_int_mk Tryz.underlying3 wi) _ [] (plainElem_int Tryz.underlying3 (wf_nat hlen hil)) ?_; intro w4 hown4 hturn4)
  have HR4 := Lib.hid (HRz.out.turn hown4 hturn4)
  have HF4 := Lib.hid (HFz.out.trans (Fr.turn hturn4))
  clear hown4 hturn4 c0 c1 a1 HRz HFz
  go_end0
  obtain ⟨hr, ht, hg, hi, hn, vi⟩ := H.out
  refine ⟨rfl, ⟨⟨_, ?_, ht.swap hi hi⟩, hg.swap hi hi⟩, HF4.out⟩
  have h4 := HR4.out
  exact { h4 with map := ownsMap_tight h4.map (ht.swap hi hi).size }

theorem swap_any (hb mb : Nat) (sv : Value) (A : List Ent) (last : Int) (i j : Nat) (ei ej : Ent) (w : World) (h : HA w hb mb sv A last) (hi : A[i]? = some ei) (hj : A[j]? = some ej) :
    Calls Tryz.prog 83 #[.pointer (some ⟨hb, 0, none⟩), .int .i64 i, .int .i64 j] w fun e w' => e = .returned (.tuple #[]) ∧ HA w' hb mb sv (swp A i j ei ej) last ∧ Fr (Own hb mb sv) w w' := by
  by_cases hij : i = j
  · subst hij
    rw [hi] at hj
    cases hj
    exact swap_eq hb mb sv A last i ei w h hi
  · exact swap_ne hb mb sv A last i j ei ej w h hi hj hij

end Go.Proofs.YtbgddldkpjeieaaGreat.M
