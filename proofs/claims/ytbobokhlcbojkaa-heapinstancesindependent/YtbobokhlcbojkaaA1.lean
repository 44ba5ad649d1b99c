/-
  CONTRACTS of precedes and swap of the heap at addresses, over this seat's translation: what each call returns, what it leaves in memory.
  Conditions: the heap lies in memory as HeapAt says; the indices are in range.
-/
import Derived.Test.YtbobokhlcbojkaaA0
import Derived.BigRegion
import Derived.BigQuiet
import Derived.Deep.QuietTactic
import Derived.Deep.LoopGhost
import Derived.Shelf.RegionOpenPlain
namespace Go.Proofs.Ytbobokhlcbojkaa.A
open Go.ChangeShapes Go.WideShapes Go.ChangeAt Go.RowKit Go.Maps
set_option linter.unusedVariables false

set_option maxHeartbeats 1000000 in
set_option maxRecDepth 100000 in
theorem precedes_any (hb mb : Nat) (sv : Value) (A : List Ent) (last : Int) (i j : Nat) (ei ej : Ent) (w : World) (h : HA w hb mb sv A last) (hi : A[i]? = some ei) (hj : A[j]? = some ej) :
    Calls Try.prog 71 #[.pointer (some ⟨hb, 0, none⟩), .int .i64 i, .int .i64 j] w fun e w' => e = .returned (.bool (decide (ei.lt ej))) ∧ Fr No w w' := by
  have hil : i < A.length := (List.getElem?_eq_some_iff.1 hi).1
  have hjl : j < A.length := (List.getElem?_eq_some_iff.1 hj).1
  have hlen := h.good.len
  obtain ⟨⟨D, hr, ht⟩, hg⟩ := h
  obtain ⟨g, cap, rfl⟩ := hr.form (by omega)
  obtain ⟨c0, -, -⟩ := hr.hcell
  obtain ⟨a0, a1⟩ := hr.ecell hi
  obtain ⟨b0, b1⟩ := hr.ecell hj
  generalize hn : A.length = n at *
  clear hr ht hg hi hj hn
  have p1 : (0 : Int) ≤ (i : Int) := by omega
  have p2 : (i : Int) < (n : Int) := by omega
  have p3 : (0 : Int) ≤ (j : Int) := by omega
  have p4 : (j : Int) < (n : Int) := by omega
  go_enter Try.func71, Try.ntmps71
  go_wp2
  refine region_tail 16 (by kernel_rfl) (by kernel_rfl) ?_
  intro y hy
  have HY := Lib.hid hy
  have c0' : y.cell? ⟨hb, 0, none⟩ = some (.slice (some ⟨g, 0, none⟩) n cap) := by subst hy; exact c0
  have a0' : y.cell? ⟨g, i * 19, none⟩ = some (.int .u64 ei.due) := by subst hy; exact a0
  have a1' : y.cell? ⟨g, i * 19 + 1, none⟩ = some (.int .i64 ei.id) := by subst hy; exact a1
  have b0' : y.cell? ⟨g, j * 19, none⟩ = some (.int .u64 ej.due) := by subst hy; exact b0
  have b1' : y.cell? ⟨g, j * 19 + 1, none⟩ = some (.int .i64 ej.id) := by subst hy; exact b1
  clear hy c0 a0 a1 b0 b1
  simp only [List.take_succ_cons, List.take_zero, List.drop_succ_cons, List.drop_zero]
  iterate 16 still_step
  refine wpStill_nil ?_
  clear c0' a0' a1' b0' b1' p1 p2 p3 p4
  have HL := Lib.hid (lex_lt ei ej)
  go_wp2_with (go_at_call 48; refine (compare_any ei.due ei.id ej.due ej.id _).mono ?_; rintro e w' ⟨rfl, q, os', hw'⟩; have HW := Lib.hid hw'; clear hw')
  go_ret
  refine ⟨?_, ?_⟩
  · rw [← HL.out]; rfl
  · rw [HW.out, HY.out]; exact (Fr.drew No w).trans (Fr.grow _ _ _)

set_option maxHeartbeats 4000000 in
set_option maxRecDepth 1000000 in
theorem swap_any (hb mb : Nat) (sv : Value) (A : List Ent) (last : Int) (i j : Nat) (ei ej : Ent) (w : World) (h : HA w hb mb sv A last) (hi : A[i]? = some ei) (hj : A[j]? = some ej) :
    Calls Try.prog 72 #[.pointer (some ⟨hb, 0, none⟩), .int .i64 i, .int .i64 j] w fun e w' => e = .returned (.tuple #[]) ∧ HA w' hb mb sv (swp A i j ei ej) last ∧ Fr (Own hb mb sv) w w' := by
  have hil : i < A.length := (List.getElem?_eq_some_iff.1 hi).1
  have hjl : j < A.length := (List.getElem?_eq_some_iff.1 hj).1
  have hlen := h.good.len
  obtain ⟨⟨D, hr, ht⟩, hg⟩ := h
  obtain ⟨g, cap, rfl⟩ := hr.form (by omega)
  have hgb : g ≠ hb := fun e => hr.apart (by simp [Value.ownBlock, e])
  have hbg : hb ≠ g := Ne.symm hgb
  obtain ⟨c0, c1, -⟩ := hr.hcell
  have wi := wf_id (hg.id i ei hi) hg.last
  have wj := wf_id (hg.id j ej hj) hg.last
  have o1 := enc_one (hg.val i ei hi)
  have o2 := enc_one (hg.val j ej hj)
  have hr' := hr.drew
  have li := hr'.load hi Try.prog
  have lj := hr'.load hj Try.prog
  have s1 := hr'.store rfl hil Try.prog (enc ej) (enc_length _) o2
  have s2 := (hr'.put rfl i hil ej).store (List.length_set ..) hjl Try.prog (enc ei) (enc_length _) o1
  generalize hn : A.length = n at *
  have H := Lib.hid (And.intro hr (And.intro ht (And.intro hg (And.intro hi (And.intro hj hn)))))
  clear hr ht hg hi hj hn hr' o1 o2
  have p1 : (0 : Int) ≤ (i : Int) := by omega
  have p2 : (i : Int) < (n : Int) := by omega
  have p3 : (0 : Int) ≤ (j : Int) := by omega
  have p4 : (j : Int) < (n : Int) := by omega
  go_enter Try.func72, Try.ntmps72
  go_wp2_with fail
  have lI := enc_length ei
  have lJ := enc_length ej
  obtain ⟨cI, hcI⟩ : ∃ c, c = enc ei := ⟨_, rfl⟩
  obtain ⟨cJ, hcJ⟩ : ∃ c, c = enc ej := ⟨_, rfl⟩
  rw [← hcI] at li s2 lI
  rw [← hcJ] at lj s1 s2 lJ
  have mixed : Try.prog.follows .mixedOrders = true := by kernel_rfl
  have u97 := Try.runUnderlying97
  have u95 := Try.runUnderlying95
  have t95 := Try.underlying95
  have t97 := Try.underlying97
  have g95 := Try.isAgg95
  have z95 := Try.sizeOf95
  have z72 := Try.sizeOf72
  have g72 := Try.isAgg72
  have g102 := Try.isAgg102
  have z102 := Try.sizeOf102
  have HC := Lib.hid (And.intro hcI hcJ)
  clear hcI hcJ
  obtain ⟨k, hk⟩ : ∃ k, k = 19 := ⟨_, rfl⟩
  rw [← hk] at li lj s1 s2 lI lJ z102
  have hk0 : ¬ k = 0 := by omega
  have HK := Lib.hid hk
  clear hk
  obtain ⟨P, hP⟩ : ∃ P, P = Try.prog := ⟨_, rfl⟩
  rw [← hP] at li lj s1 s2 mixed u97 u95 t95 t97 z95 z72 g72 g95 g102 z102 ⊢
  have HP := Lib.hid hP
  clear hP
  go_big_region_o
  obtain rfl := HP.out
  obtain rfl := HK.out
  obtain ⟨rfl, rfl⟩ := HC.out
  clear HP HK HC hk0 li lj s1 s2 mixed u97 u95 t95 t97 z95 z72 g72 g95 g102 z102 c0 c1 lI lJ
  obtain ⟨hr, ht, hg, hi, hj, hn⟩ := H.out
  have hR := swap_raw hr.drew hn hi hj
  have hF := (Fr.drew _ w).trans (swap_fr w.drew hb mb g n cap (i * 19) (j * 19) (enc ej) (enc ei))
  revert hR hF
  generalize (w.drew.setCells g (i * 19) (enc ej)).setCells g (j * 19) (enc ei) = w2
  intro hR hF1
  have si : (swp A i j ei ej)[i]? = some ej := by
    by_cases e : i = j
    · subst e; rw [swp_get hi hj, if_pos rfl, ← hi, hj]
    · rw [swp_get hi hj, if_neg e, if_pos rfl]
  have sj : (swp A i j ei ej)[j]? = some ei := by rw [swp_get hi hj, if_pos rfl]
  have hS := Lib.hid (And.intro si sj)
  clear hr ht hg hi hj hn si sj
  have HR := Lib.hid hR
  have HF1 := Lib.hid hF1
  clear hR hF1
  go_wp2_with fail
  refine region_tail 14 (by kernel_rfl) (by kernel_rfl) ?_
  intro y hy
  have HRy : Hid (Raw 97 102 y hb mb (.slice (some ⟨g, 0, none⟩) n cap) (swp A i j ei ej) last n D) := by subst hy; exact HR.out.drew
  have HFy : Hid (Fr (Own hb mb (.slice (some ⟨g, 0, none⟩) n cap)) w y) := by subst hy; exact HF1.out.trans (Fr.drew _ _)
  obtain ⟨c0, c1, -⟩ := HRy.out.hcell
  obtain ⟨-, a1⟩ := HRy.out.ecell hS.out.1
  clear HR HF1 hy
  simp only [List.take_succ_cons, List.take_zero, List.drop_succ_cons, List.drop_zero]
  iterate 14 still_step
  refine wpStill_nil ?_
  go_wp2_with (at_mapUpdate; refine wpList_mapUpdate_in _ rfl _ _ _ 72 rfl 3 3 law3 Try.underlying72 _ mb n D rfl HRy.out.map (by unfold maxLen; omega) _ _ _ rfl rfl (keyOf_int_mk Try.underlying3 wj) _ [] (plainElem_int Try.underlying3 (wf_nat hlen hil)) ?_; intro w3 hown3 hturn3)
  have HR3 := Lib.hid (HRy.out.turn hown3 hturn3)
  have HF3 := Lib.hid (HFy.out.trans (Fr.turn hturn3))
  clear hown3 hturn3 c0 c1 a1 HRy HFy
  go_wp2_with fail
  refine region_tail 14 (by kernel_rfl) (by kernel_rfl) ?_
  intro z hz
  have HRz : Hid (Raw 97 102 z hb mb (.slice (some ⟨g, 0, none⟩) n cap) (swp A i j ei ej) last (n + 1) (D.put (key ej.id) (lit i))) := by subst hz; exact HR3.out.drew
  have HFz : Hid (Fr (Own hb mb (.slice (some ⟨g, 0, none⟩) n cap)) w z) := by subst hz; exact HF3.out.trans (Fr.drew _ _)
  obtain ⟨c0, c1, -⟩ := HRz.out.hcell
  obtain ⟨-, a1⟩ := HRz.out.ecell hS.out.2
  clear HR3 HF3 hz
  simp only [List.take_succ_cons, List.take_zero, List.drop_succ_cons, List.drop_zero]
  iterate 14 still_step
  refine wpStill_nil ?_
  go_wp2_with (at_mapUpdate; refine wpList_mapUpdate_in _ rfl _ _ _ 72 rfl 3 3 law3 Try.underlying72 _ mb (n + 1) _ rfl HRz.out.map (by unfold maxLen; omega) _ _ _ rfl rfl (keyOf_int_mk Try.underlying3 wi) _ [] (plainElem_int Try.underlying3 (wf_nat hlen hjl)) ?_; intro w4 hown4 hturn4)
  have HR4 := Lib.hid (HRz.out.turn hown4 hturn4)
  have HF4 := Lib.hid (HFz.out.trans (Fr.turn hturn4))
  clear hown4 hturn4 c0 c1 a1 HRz HFz
  go_end0
  obtain ⟨hr, ht, hg, hi, hj, hn⟩ := H.out
  refine ⟨rfl, ⟨⟨_, ?_, ht.swap hi hj⟩, hg.swap hi hj⟩, HF4.out⟩
  have h4 := HR4.out
  exact { h4 with map := ownsMap_tight h4.map (ht.swap hi hj).size }

end Go.Proofs.Ytbobokhlcbojkaa.A
