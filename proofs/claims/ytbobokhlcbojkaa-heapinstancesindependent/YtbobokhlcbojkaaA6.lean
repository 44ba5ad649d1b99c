/-
  CONTRACTS of the method removeAt of the heap at addresses, over this seat's translation: what each call returns, what it leaves in memory.
  Conditions: the heap lies in memory as HeapAt says, in order.
-/
import Derived.Test.YtbobokhlcbojkaaA5
namespace Go.Proofs.Ytbobokhlcbojkaa.A
open Go.ChangeShapes Go.WideShapes Go.ChangeAt Go.RowKit Go.Maps
set_option linter.unusedVariables false

theorem at_prog {P : Program} (h : P = Try.prog) {f : Nat} {args : Array Value} {w : World} {R : Ending → World → Prop} (c : Calls Try.prog f args w R) : Calls P f args w R := by subst h; exact c

theorem ze_enc : ze.toList = enc ⟨0, 0, .agg zx⟩ := by rw [enc_mk 0 0 zx_size]; rfl
theorem ze_one : ∀ u ∈ ze.toList, u.oneCell' = true := by intro u hu; simp [ze] at hu; rcases hu with rfl | rfl | rfl | rfl <;> rfl

theorem Raw.zero {st en : TypeId} {w : World} {hb mb n g m cap : Nat} {A : List Ent} {last : Int} {D : DataW Unit} (h : Raw st en w hb mb (.slice (some ⟨g, 0, none⟩) m cap) A last n D) (hm : A.length = m) (i : Nat) (hi : i < m) (P : Program) :
    ∃ y, Sem.run P (storeCells ⟨g, i * 19, none⟩ ze.toList 0) w = .ok () y ∧ Raw st en y hb mb (.slice (some ⟨g, 0, none⟩) m cap) (A.set i ⟨0, 0, .agg zx⟩) last n D ∧ Fr (Own hb mb (.slice (some ⟨g, 0, none⟩) m cap)) w y :=
  ⟨w.setCells g (i * 19) ze.toList, h.store hm hi P _ rfl ze_one, by rw [ze_enc]; exact h.put hm i hi _, fr_cells (.inr (.inr rfl)) _ _ _⟩

theorem cut_heap2 {V : Value → Prop} {st en : TypeId} {w : World} {hb mb g m cap i N : Nat} {A : List Ent} {last : Int} {ei el : Ent} {D : DataW Unit} {Z : Ent}
    (h1 : Raw st en w hb mb (.slice (some ⟨g, 0, none⟩) (m + 1) cap) ((swp A i m ei el).set m Z) last N (D.del (key ei.id))) (ht : Tied D (swp A i m ei el)) (hg : Sound V (swp A i m ei el) last) (hi : A[i]? = some ei) (hl : A[m]? = some el) (hm : A.length = m + 1) :
    HeapAt V st en (w.setCell ⟨hb, 0, none⟩ (.slice (some ⟨g, 0, none⟩) m cap)) hb mb (.slice (some ⟨g, 0, none⟩) m cap) ((swp A i m ei el).take m) last := by
  have hB : (swp A i m ei el).length = m + 1 := by rw [swp_length]; exact hm
  have h2 := h1.cut (by rw [List.length_set]; exact hB) m (by omega)
  rw [set_take] at h2
  have ht' := ht
  rw [cut_eq hi hl hm] at ht'
  have ht2 := ht'.drop
  refine ⟨⟨_, { h2 with map := ownsMap_tight h2.map ht2.size }, ht2⟩, hg.sub (fun k e hk => ⟨k, (take_get hk).2⟩) (by simp; omega)⟩

set_option maxHeartbeats 4000000 in
set_option maxRecDepth 1000000 in
theorem removeAt_any (hb mb : Nat) (sv : Value) (A : List Ent) (last : Int) (i : Nat) (ei : Ent) (w : World) (h : HA w hb mb sv A last) (hO : Ordered A) (hi : A[i]? = some ei) :
    Calls Try.prog 58 #[.pointer (some ⟨hb, 0, none⟩), .int .i64 i] w fun e w' => e = .returned (.tuple #[]) ∧ ∃ sv' A', HA w' hb mb sv' A' last ∧ (ei :: A').Perm A ∧ Ordered A' ∧ Fr (Own hb mb sv) w w' ∧ sv'.ownBlock = sv.ownBlock := by
  have hil : i < A.length := (List.getElem?_eq_some_iff.1 hi).1
  have hlen := h.good.len
  obtain ⟨g, cap, rfl⟩ := h.form (by omega)
  obtain ⟨m, hm⟩ : ∃ m, A.length = m + 1 := ⟨A.length - 1, by omega⟩
  rw [hm] at h hil hlen ⊢
  obtain ⟨el, hl⟩ : ∃ e, A[m]? = some e := ⟨_, List.getElem?_eq_getElem (by omega)⟩
  have c0 : w.cell? ⟨hb, 0, none⟩ = some (.slice (some ⟨g, 0, none⟩) (m + 1) cap) := by obtain ⟨⟨D', hr', _⟩, _⟩ := h; exact hr'.hcell.1
  have hsub : ((m : Int) + 1 - 1) = (m : Int) := by omega
  have HS := Lib.hid (And.intro h (And.intro hO (And.intro hi (And.intro hl hm))))
  clear h hO hi hl hm
  go_enter Try.func58, Try.ntmps58
  have v102 := ze_run
  have se := ze_size
  have ne : ¬ ze = #[] := by simp [ze]
  have k3 := law3
  have t72 := Try.underlying72
  have t3 := Try.underlying3
  have u3 := Try.runUnderlying3
  have call72 := Try.call72
  have g72 := Try.isAgg72
  have z72 := Try.sizeOf72
  have call75 := Try.call75
  have mixed : Try.prog.follows .mixedOrders = true := by kernel_rfl
  have t97 := Try.underlying97
  have u97 := Try.runUnderlying97
  have t95 := Try.underlying95
  have u95 := Try.runUnderlying95
  have t102 := Try.underlying102
  have u102 := Try.runUnderlying102
  have t78 := Try.underlying78
  have u78 := Try.runUnderlying78
  have g95 := Try.isAgg95
  have z95 := Try.sizeOf95
  have g3 := Try.isAgg3
  have z3 := Try.sizeOf3
  have g29 := Try.isAgg29
  have z29 := Try.sizeOf29
  have g78 := Try.isAgg78
  have z78 := Try.sizeOf78
  have g102 := Try.isAgg102
  have z102 := Try.sizeOf102
  have g61 := Try.isAgg61
  have z61 := Try.sizeOf61
  obtain ⟨ze', hze⟩ : ∃ z, z = ze := ⟨_, rfl⟩
  rw [← hze] at v102 se ne
  have HZE := Lib.hid hze
  obtain ⟨k, hk⟩ : ∃ k, k = 19 := ⟨_, rfl⟩
  obtain ⟨kx, hkx⟩ : ∃ k, k = 17 := ⟨_, rfl⟩
  rw [← hk] at se z102
  rw [← hkx] at z61
  have nk : ¬ k = 0 := by omega
  have nkx : ¬ kx = 0 := by omega
  have HK := Lib.hid hk
  obtain ⟨P, hP⟩ : ∃ P, P = Try.prog := ⟨_, rfl⟩
  rw [← hP] at v102 k3 t72 t3 u3 call72 g72 z72 call75 mixed t97 u97 t95 u95 t102 u102 t78 u78 g95 z95 g3 z3 g29 z29 g78 z78 g102 z102 g61 z61 ⊢
  have HP := Lib.hid hP
  clear hP hk hkx hze
  go_wp2_with fail
  refine (at_prog HP.out (swap_any hb mb _ A last i m ei el _ HS.out.1 HS.out.2.2.1 HS.out.2.2.2.1)).mono ?_
  rintro e w1 ⟨rfl, hh1, hf1⟩
  obtain ⟨⟨D, hr, ht⟩, hg⟩ := hh1
  have hlast : (swp A i m ei el)[m]? = some ei := by rw [swp_get HS.out.2.2.1 HS.out.2.2.2.1, if_pos rfl]
  have wid := wf_id (hg.id m ei hlast) hg.last
  have HR1 := Lib.hid (And.intro hr (And.intro ht (And.intro hg (And.intro hf1 hlast))))
  clear hr ht hg hf1 hlast c0
  go_wp2_with fail
  refine region_tail 13 mixed (by kernel_rfl) ?_
  intro y hy
  have HRy : Hid (Raw 97 102 y hb mb (.slice (some ⟨g, 0, none⟩) (m + 1) cap) (swp A i m ei el) last (swp A i m ei el).length D) := by subst hy; exact HR1.out.1.drew
  have HFy : Hid (Fr (Own hb mb (.slice (some ⟨g, 0, none⟩) (m + 1) cap)) w y) := by subst hy; exact HR1.out.2.2.2.1.trans (Fr.drew _ _)
  obtain ⟨c0, c1, -⟩ := HRy.out.hcell
  obtain ⟨-, a1⟩ := HRy.out.ecell HR1.out.2.2.2.2
  rw [← HK.out] at a1
  have p1 : (0 : Int) ≤ (m : Int) := by omega
  have p2 : (m : Int) < (m : Int) + 1 := by omega
  clear hy
  simp only [List.take_succ_cons, List.take_zero, List.drop_succ_cons, List.drop_zero]
  iterate 13 still_step
  refine wpStill_nil ?_
  have hgb : g ≠ hb := fun e => HRy.out.apart (by simp [Value.ownBlock, e])
  have hbg : hb ≠ g := Ne.symm hgb
  have hcap : m + 1 ≤ cap := by
    have hrow := HRy.out.row
    rw [swp_length, HS.out.2.2.2.2] at hrow
    rcases hrow.2 with ⟨h', _⟩ | ⟨g', cap', cur, h', _, _, hnc, _⟩
    · cases h'
    · cases h'; exact hnc
  have p3 : (m : Int) ≤ (cap : Int) := by omega
  clear c0 c1 a1
  by_cases him : i < m
  · have q1 : (i : Int) < (m : Int) := by omega
    go_wp2_with (first | (at_delete; refine wpList_delete_own _ rfl _ _ 72 3 rfl 3 k3 t72 _ mb _ D rfl (HP.out.symm ▸ HRy.out.map) _ _ rfl (keyOf_int_mk t3 wid) ?_; intro w2 hown2 hturn2; have hR2 := HRy.out.turn (HP.out ▸ hown2) hturn2; have e0 := hR2.hcell.1; obtain ⟨y3, sZ, hR3, hF3⟩ := hR2.zero (by rw [swp_length]; exact HS.out.2.2.2.2) m (by omega) P; rw [← HZE.out, ← HK.out] at sZ; have HF3 := Lib.hid ((HFy.out.trans (Fr.turn hturn2)).trans hF3); have d0 := hR3.hcell.1; have z0 := hR3.hfrozen 0; have HR3 := Lib.hid hR3; clear hown2 hturn2 hR2 hR3 hF3) | fail)
    obtain ⟨hr1, ht1, hg1, hf1, hl1⟩ := HR1.out
    obtain ⟨h, hO, hi, hl, hm⟩ := HS.out
    have hH3 := cut_heap2 HR3.out ht1 hg1 hi hl hm
    have hF3 := HF3.out.trans (Fr.hdr (mb := mb) (sv := .slice (some ⟨g, 0, none⟩) (m + 1) cap) (hb := hb) (w := y3) 0 (.slice (some ⟨g, 0, none⟩) m cap))
    have hE := ex_of_agree (i := i) hO (cut_agree hi hl)
    have hp := cut_perm hi hl hm
    revert hH3 hF3
    generalize y3.setCell ⟨hb, 0, none⟩ (.slice (some ⟨g, 0, none⟩) m cap) = w3
    intro hH3 hF3
    have HH := Lib.hid (And.intro hH3 (And.intro hF3 (And.intro hE hp)))
    clear hr1 ht1 hg1 hf1 hl1 h hO hi hl hm hH3 hF3 hE hp d0 z0 e0 sZ HR3 HF3
    have hlt : i < ((swp A i m ei el).take m).length := by rw [List.length_take, swp_length, HS.out.2.2.2.2]; omega
    refine (at_prog HP.out (restore_any hb mb _ _ _ i _ HH.out.1 hlt HH.out.2.2.1)).mono ?_
    rintro e w4 ⟨rfl, A', h1, h2, h3, h4⟩
    have H5 := Lib.hid (And.intro h1 (And.intro h2 (And.intro h3 h4)))
    clear h1 h2 h3 h4
    go_wp2_with fail
    go_end0
    obtain ⟨h1, h2, h3, h4⟩ := H5.out
    rw [own_eq (sv' := .slice (some ⟨g, 0, none⟩) m cap) (sv := .slice (some ⟨g, 0, none⟩) (m + 1) cap) rfl] at h4
    exact ⟨rfl, _, A', h1, (h2.cons ei).trans HH.out.2.2.2, h3, HH.out.2.1.trans h4, rfl⟩
  · have q1 : ¬ ((i : Int) < (m : Int)) := by omega
    have q2 : m ≤ i := by omega
    go_wp2_with (first | (at_delete; refine wpList_delete_own _ rfl _ _ 72 3 rfl 3 k3 t72 _ mb _ D rfl (HP.out.symm ▸ HRy.out.map) _ _ rfl (keyOf_int_mk t3 wid) ?_; intro w2 hown2 hturn2; have hR2 := HRy.out.turn (HP.out ▸ hown2) hturn2; have e0 := hR2.hcell.1; obtain ⟨y3, sZ, hR3, hF3⟩ := hR2.zero (by rw [swp_length]; exact HS.out.2.2.2.2) m (by omega) P; rw [← HZE.out, ← HK.out] at sZ; have HF3 := Lib.hid ((HFy.out.trans (Fr.turn hturn2)).trans hF3); have d0 := hR3.hcell.1; have z0 := hR3.hfrozen 0; have HR3 := Lib.hid hR3; clear hown2 hturn2 hR2 hR3 hF3) | fail)
    go_end0
    obtain ⟨hr1, ht1, hg1, hf1, hl1⟩ := HR1.out
    obtain ⟨h, hO, hi, hl, hm⟩ := HS.out
    have hH3 := cut_heap2 HR3.out ht1 hg1 hi hl hm
    have hF3 := HF3.out.trans (Fr.hdr (mb := mb) (sv := .slice (some ⟨g, 0, none⟩) (m + 1) cap) (hb := hb) (w := y3) 0 (.slice (some ⟨g, 0, none⟩) m cap))
    refine ⟨rfl, _, _, hH3, cut_perm hi hl hm, ?_, hF3, rfl⟩
    refine ordered_of_agree hO fun k b hb' => ?_
    have hk := (take_get hb').1
    exact cut_agree hi hl k b (by omega) hb'

end Go.Proofs.Ytbobokhlcbojkaa.A
