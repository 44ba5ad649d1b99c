/-
  The law FdtableShutdownTransitions returns true for every two bools and every endpoint, and changes nothing that was in memory before.
  Conditions: none beyond the row's own.
-/
import Derived.Test.YtanhjjinedjaaaaSd
import Derived.Deep.DeepCutAuto
import Derived.Deep.CutBlock
import Derived.Deep.RegionHeld3
namespace Go.Proofs.Ytanhjjinedjaaaa
open Go.ChangeShapes Go.WideShapes Go.ChangeAt Go.RowKit
set_option linter.unusedVariables false

set_option maxHeartbeats 2000000 in
set_option maxRecDepth 100000 in
theorem shutdown_law (b0 b1 : Bool) (x2 y2 : Int) (w : World) (hx2 : -9223372036854775808 ≤ x2 ∧ x2 ≤ 9223372036854775807) (hy2 : -9223372036854775808 ≤ y2 ∧ y2 ≤ 9223372036854775807) :
    Calls Try.prog 6 #[.bool b0, .bool b1, .agg #[.int .i64 x2, .int .i64 y2]] w fun e w' => e = .returned (.bool true) ∧ Below w.heap.size w w' := by
  obtain ⟨m1, hm1, hM1⟩ := mod_fix x2 1048576 1048576 rfl (by omega) (by omega) hx2
  obtain ⟨m2, hm2, hM2⟩ := mod_fix y2 65 65 rfl (by omega) (by omega) hy2
  have HM := Lib.hid (And.intro hM1 hM2)
  have HVV : Hid (Valid ((m1 : Int), (m2 : Int))) := by show _ ∧ _ ∧ _ ∧ _; simp only; omega
  clear hx2 hy2 hM1 hM2 hm1 hm2
  go_enter Try.func6, Try.ntmps6
  go_wp2_with fail
  have HF0 : Hid (Fr (fun k => w.heap.size ≤ k) w (w.alloc (.cells #[.int .i64 x2, .int .i64 y2] 38))) := Fr.alloc _ _ _
  have HX0 : Hid ((w.alloc (.cells #[.int .i64 x2, .int .i64 y2] 38)).heap[w.heap.size]? = some (.cells #[.int .i64 x2, .int .i64 y2] 38 (0, 0))) := heap_alloc_new w _
  have HXL : Hid (w.heap.size < (w.alloc (.cells #[.int .i64 x2, .int .i64 y2] 38)).heap.size) := by simp [Hid]
  obtain ⟨xb, hxb⟩ : ∃ xb, w.heap.size = xb := ⟨_, rfl⟩
  rw [hxb] at HX0 HXL ⊢
  have HXB := Lib.hid hxb
  clear hxb
  revert HXL; revert HX0; revert HF0
  generalize w.alloc (.cells #[.int .i64 x2, .int .i64 y2] 38) = y
  intro HF0 HX0 HXL
  refine (new_ok (fun k => y.heap.size ≤ k) 1 _ (by omega) (by omega) (fun k hk => hk)).mono ?_
  rintro e w1 ⟨hb, rfl, hA1, hf1⟩
  have H1 : Hid (Duo w w1 (fun k => k = xb) (Tab hb [] 1 0) Nil ∧ w1.heap[xb]? = some (.cells #[.int .i64 x2, .int .i64 y2] 38 (0, 0))) := by
    refine ⟨(duo_born (tab_mov hb [] 1 0) hA1 (fun k hk => hk) hf1 HF0.out).less fun k hk => ?_, (hf1.block xb HXL.out (fun h => h)).trans HX0.out⟩
    rw [hk]
    exact ⟨Nat.le_of_eq HXB.out, HXL.out⟩
  clear hA1 hf1 HF0 HX0 HXL
  go_upto_region 4 with fail
  go_cut [9] (fun s9 wx => ∃ nb, s9 = .pointer (some ⟨nb, 0, none⟩) ∧ Hid (Duo w wx (fun k => k = nb) (Tab hb [] 1 0) Nil ∧ wx.heap[nb]? = some (.cells #[.int .i64 m1, .int .i64 m2] 38 (0, 0))))
  case first =>
    obtain ⟨x00, x01⟩ := pair_cells H1.out.2
    have hxn : ¬ (xb = w1.heap.size) := by have := (H1.out.1.zlt (k := xb) rfl).2; omega
    have hnx : ¬ (w1.heap.size = xb) := by have := (H1.out.1.zlt (k := xb) rfl).2; omega
    go_region_held3 (fun w' => w'.cell? ⟨xb, 0, none⟩ = some (.int .i64 x2) ∧ w'.cell? ⟨xb, 1, none⟩ = some (.int .i64 y2)) (go_keep) (first | (go_at_call 14; (with_reducible refine (HM.out.1 _).mono ?_); rintro e w5 ⟨rfl, rfl⟩) | (go_at_call 14; (with_reducible refine (HM.out.2 _).mono ?_); rintro e w5 ⟨rfl, rfl⟩))
    all_goals (
      go_wp2_with fail
      go_meet
      refine ⟨_, rfl, ((H1.out.1.box _).less (fun k hk => .inr hk)).frNo (Fr.drew No _), heap_alloc_new w1 _⟩)
  case rest =>
    obtain ⟨nb, rfl, HC⟩ := hcut
    clear H1 HM
    obtain ⟨n0, n1⟩ := pair_cells HC.out.2
    cases b0 with
    | true =>
      cases b1 with
      | true =>
        go_wp2_with fail
        refine (duo_open HC.out.1 m1 m2 true (by omega)).mono ?_
        rintro e wz ⟨no, r, Lz, kz, rfl, hO, hD, hK⟩
        obtain ⟨rfl, rfl, rfl, rfl⟩ := hO.first HVV.out (by omega)
        have hN := (hK nb rfl).trans HC.out.2
        have H0 := Lib.hid (And.intro hD hN)
        clear hO hD hK HC n0 n1
        obtain ⟨n0, n1⟩ := pair_cells hN
        clear hN
        go_wp2_with fail
        refine (duo_remote H0.out.1 m1 m2).mono ?_
        rintro e wz ⟨r, Lz, rfl, hO, hD, hK⟩
        obtain ⟨rfl, rfl⟩ := hO.one_none rfl rfl
        have hN := (hK nb rfl).trans H0.out.2
        have H1 := Lib.hid (And.intro hD hN)
        clear hO hD hK H0 n0 n1
        obtain ⟨n0, n1⟩ := pair_cells hN
        clear hN
        go_wp2_with fail
        refine (duo_local_ H1.out.1 m1 m2).mono ?_
        rintro e wz ⟨r, Lz, rfl, hO, hD, hK⟩
        obtain ⟨rfl, rfl⟩ := hO.one_none rfl rfl
        have hN := (hK nb rfl).trans H1.out.2
        have H2 := Lib.hid (And.intro hD hN)
        clear hO hD hK H1 n0 n1
        obtain ⟨n0, n1⟩ := pair_cells hN
        clear hN
        go_wp2_with fail
        refine (duo_connected H2.out.1 m1 m2).mono ?_
        rintro e wz ⟨r, Lz, rfl, hO, hD, hK⟩
        obtain ⟨rfl, rfl⟩ := hO.one_some rfl rfl
        have hN := (hK nb rfl).trans H2.out.2
        have H3 := Lib.hid (And.intro hD hN)
        clear hO hD hK H2 n0 n1
        obtain ⟨n0, n1⟩ := pair_cells hN
        clear hN
        go_wp2_with fail
        refine (duo_connected H3.out.1 m1 m2).mono ?_
        rintro e wz ⟨r, Lz, rfl, hO, hD, hK⟩
        obtain ⟨rfl, rfl⟩ := hO.one_none rfl rfl
        have hN := (hK nb rfl).trans H3.out.2
        have H4 := Lib.hid (And.intro hD hN)
        clear hO hD hK H3 n0 n1
        obtain ⟨n0, n1⟩ := pair_cells hN
        clear hN
        go_wp2_with fail
        refine (duo_shutdown H4.out.1 m1 m2 true).mono ?_
        rintro e wz ⟨r, Lz, rfl, hO, hD, hK⟩
        obtain ⟨rfl, rfl⟩ := hO.one_some rfl rfl
        have hN := (hK nb rfl).trans H4.out.2
        have H5 := Lib.hid (And.intro hD hN)
        clear hO hD hK H4 n0 n1
        obtain ⟨n0, n1⟩ := pair_cells hN
        clear hN
        go_wp2_with fail
        refine (duo_state H5.out.1 m1 m2).mono ?_
        rintro e wz ⟨v, rfl, hv, hf⟩
        obtain rfl : v = 4 := hv.mem H5.out.1.good.sorted (List.mem_singleton.2 rfl) rfl
        have hN := (hf.block nb (H5.out.1.zlt (k := nb) rfl).2 (fun h => h)).trans H5.out.2
        have H6 := Lib.hid (And.intro (H5.out.1.frNo hf) hN)
        clear hv hf H5 n0 n1
        obtain ⟨n0, n1⟩ := pair_cells hN
        clear hN
        go_wp2_with fail
        refine (duo_shutdown H6.out.1 m1 m2 true).mono ?_
        rintro e wz ⟨r, Lz, rfl, hO, hD, hK⟩
        obtain ⟨rfl, rfl⟩ := hO.one_none rfl rfl
        have hN := (hK nb rfl).trans H6.out.2
        have H7 := Lib.hid (And.intro hD hN)
        clear hO hD hK H6 n0 n1
        obtain ⟨n0, n1⟩ := pair_cells hN
        clear hN
        go_wp2_with fail
        refine (duo_shutdown H7.out.1 m1 m2 false).mono ?_
        rintro e wz ⟨r, Lz, rfl, hO, hD, hK⟩
        obtain ⟨rfl, rfl⟩ := hO.one_some rfl rfl
        have hN := (hK nb rfl).trans H7.out.2
        have H8 := Lib.hid (And.intro hD hN)
        clear hO hD hK H7 n0 n1
        obtain ⟨n0, n1⟩ := pair_cells hN
        clear hN
        go_wp2_with fail
        refine (duo_state H8.out.1 m1 m2).mono ?_
        rintro e wz ⟨v, rfl, hv, hf⟩
        obtain rfl : v = 5 := hv.mem H8.out.1.good.sorted (List.mem_singleton.2 rfl) rfl
        have hN := (hf.block nb (H8.out.1.zlt (k := nb) rfl).2 (fun h => h)).trans H8.out.2
        have H9 := Lib.hid (And.intro (H8.out.1.frNo hf) hN)
        clear hv hf H8 n0 n1
        obtain ⟨n0, n1⟩ := pair_cells hN
        clear hN
        go_wp2_with fail
        refine (duo_shutdown H9.out.1 m1 m2 false).mono ?_
        rintro e wz ⟨r, Lz, rfl, hO, hD, hK⟩
        obtain ⟨rfl, rfl⟩ := hO.one_none rfl rfl
        have hN := (hK nb rfl).trans H9.out.2
        have H10 := Lib.hid (And.intro hD hN)
        clear hO hD hK H9 n0 n1
        obtain ⟨n0, n1⟩ := pair_cells hN
        clear hN
        go_wp2_with fail
        refine (awake_any _).mono ?_
        rintro e wz ⟨rfl, hf⟩
        have hN := (hf.block nb (H10.out.1.zlt (k := nb) rfl).2 (fun h => h)).trans H10.out.2
        have H11 := Lib.hid (And.intro (H10.out.1.frNo hf) hN)
        clear hf H10 n0 n1
        obtain ⟨n0, n1⟩ := pair_cells hN
        clear hN
        go_wp2_with fail
        refine (duo_close H11.out.1 m1 m2).mono ?_
        rintro e wz ⟨r, Lz, rfl, hO, hD, hK⟩
        obtain ⟨rfl, rfl⟩ := hO.one rfl
        have hN := (hK nb rfl).trans H11.out.2
        have H12 := Lib.hid (And.intro hD hN)
        clear hO hD hK H11 n0 n1
        obtain ⟨n0, n1⟩ := pair_cells hN
        clear hN
        go_wp2_with fail
        refine (duo_state H12.out.1 m1 m2).mono ?_
        rintro e wz ⟨v, rfl, hv, hf⟩
        obtain rfl : v = 0 := hv.none (fun d hd => by simp at hd)
        have hN := (hf.block nb (H12.out.1.zlt (k := nb) rfl).2 (fun h => h)).trans H12.out.2
        have H13 := Lib.hid (And.intro (H12.out.1.frNo hf) hN)
        clear hv hf H12 n0 n1
        obtain ⟨n0, n1⟩ := pair_cells hN
        clear hN
        go_wp2_with fail
        refine (duo_close H13.out.1 m1 m2).mono ?_
        rintro e wz ⟨r, Lz, rfl, hO, hD, hK⟩
        obtain ⟨rfl, rfl⟩ := hO.nil
        have hN := (hK nb rfl).trans H13.out.2
        have H14 := Lib.hid (And.intro hD hN)
        clear hO hD hK H13 n0 n1
        obtain ⟨n0, n1⟩ := pair_cells hN
        clear hN
        go_wp2_with fail
        refine (duo_remote H14.out.1 m1 m2).mono ?_
        rintro e wz ⟨r, Lz, rfl, hO, hD, hK⟩
        obtain ⟨rfl, rfl⟩ := hO.nil
        have hN := (hK nb rfl).trans H14.out.2
        have H15 := Lib.hid (And.intro hD hN)
        clear hO hD hK H14 n0 n1
        obtain ⟨n0, n1⟩ := pair_cells hN
        clear hN
        go_wp2_with fail
        refine (duo_free H15.out.1 0 1 rfl rfl).mono ?_
        rintro e wz ⟨rfl, hf⟩
        have HE := Lib.hid (H15.out.1.frNo hf)
        clear hf H15 n0 n1
        go_wp2_with fail
        go_ret
        exact ⟨rfl, HE.out.fr.below (fun k hk => hk) (Nat.le_refl _)⟩
      | false =>
        go_wp2_with fail
        refine (duo_open HC.out.1 m1 m2 true (by omega)).mono ?_
        rintro e wz ⟨no, r, Lz, kz, rfl, hO, hD, hK⟩
        obtain ⟨rfl, rfl, rfl, rfl⟩ := hO.first HVV.out (by omega)
        have hN := (hK nb rfl).trans HC.out.2
        have H0 := Lib.hid (And.intro hD hN)
        clear hO hD hK HC n0 n1
        obtain ⟨n0, n1⟩ := pair_cells hN
        clear hN
        go_wp2_with fail
        refine (duo_remote H0.out.1 m1 m2).mono ?_
        rintro e wz ⟨r, Lz, rfl, hO, hD, hK⟩
        obtain ⟨rfl, rfl⟩ := hO.one_none rfl rfl
        have hN := (hK nb rfl).trans H0.out.2
        have H1 := Lib.hid (And.intro hD hN)
        clear hO hD hK H0 n0 n1
        obtain ⟨n0, n1⟩ := pair_cells hN
        clear hN
        go_wp2_with fail
        refine (duo_local_ H1.out.1 m1 m2).mono ?_
        rintro e wz ⟨r, Lz, rfl, hO, hD, hK⟩
        obtain ⟨rfl, rfl⟩ := hO.one_none rfl rfl
        have hN := (hK nb rfl).trans H1.out.2
        have H2 := Lib.hid (And.intro hD hN)
        clear hO hD hK H1 n0 n1
        obtain ⟨n0, n1⟩ := pair_cells hN
        clear hN
        go_wp2_with fail
        refine (duo_connected H2.out.1 m1 m2).mono ?_
        rintro e wz ⟨r, Lz, rfl, hO, hD, hK⟩
        obtain ⟨rfl, rfl⟩ := hO.one_some rfl rfl
        have hN := (hK nb rfl).trans H2.out.2
        have H3 := Lib.hid (And.intro hD hN)
        clear hO hD hK H2 n0 n1
        obtain ⟨n0, n1⟩ := pair_cells hN
        clear hN
        go_wp2_with fail
        refine (duo_connected H3.out.1 m1 m2).mono ?_
        rintro e wz ⟨r, Lz, rfl, hO, hD, hK⟩
        obtain ⟨rfl, rfl⟩ := hO.one_none rfl rfl
        have hN := (hK nb rfl).trans H3.out.2
        have H4 := Lib.hid (And.intro hD hN)
        clear hO hD hK H3 n0 n1
        obtain ⟨n0, n1⟩ := pair_cells hN
        clear hN
        go_wp2_with fail
        refine (duo_shutdown H4.out.1 m1 m2 false).mono ?_
        rintro e wz ⟨r, Lz, rfl, hO, hD, hK⟩
        obtain ⟨rfl, rfl⟩ := hO.one_some rfl rfl
        have hN := (hK nb rfl).trans H4.out.2
        have H5 := Lib.hid (And.intro hD hN)
        clear hO hD hK H4 n0 n1
        obtain ⟨n0, n1⟩ := pair_cells hN
        clear hN
        go_wp2_with fail
        refine (duo_state H5.out.1 m1 m2).mono ?_
        rintro e wz ⟨v, rfl, hv, hf⟩
        obtain rfl : v = 3 := hv.mem H5.out.1.good.sorted (List.mem_singleton.2 rfl) rfl
        have hN := (hf.block nb (H5.out.1.zlt (k := nb) rfl).2 (fun h => h)).trans H5.out.2
        have H6 := Lib.hid (And.intro (H5.out.1.frNo hf) hN)
        clear hv hf H5 n0 n1
        obtain ⟨n0, n1⟩ := pair_cells hN
        clear hN
        go_wp2_with fail
        refine (duo_shutdown H6.out.1 m1 m2 false).mono ?_
        rintro e wz ⟨r, Lz, rfl, hO, hD, hK⟩
        obtain ⟨rfl, rfl⟩ := hO.one_none rfl rfl
        have hN := (hK nb rfl).trans H6.out.2
        have H7 := Lib.hid (And.intro hD hN)
        clear hO hD hK H6 n0 n1
        obtain ⟨n0, n1⟩ := pair_cells hN
        clear hN
        go_wp2_with fail
        refine (duo_shutdown H7.out.1 m1 m2 true).mono ?_
        rintro e wz ⟨r, Lz, rfl, hO, hD, hK⟩
        obtain ⟨rfl, rfl⟩ := hO.one_some rfl rfl
        have hN := (hK nb rfl).trans H7.out.2
        have H8 := Lib.hid (And.intro hD hN)
        clear hO hD hK H7 n0 n1
        obtain ⟨n0, n1⟩ := pair_cells hN
        clear hN
        go_wp2_with fail
        refine (duo_state H8.out.1 m1 m2).mono ?_
        rintro e wz ⟨v, rfl, hv, hf⟩
        obtain rfl : v = 5 := hv.mem H8.out.1.good.sorted (List.mem_singleton.2 rfl) rfl
        have hN := (hf.block nb (H8.out.1.zlt (k := nb) rfl).2 (fun h => h)).trans H8.out.2
        have H9 := Lib.hid (And.intro (H8.out.1.frNo hf) hN)
        clear hv hf H8 n0 n1
        obtain ⟨n0, n1⟩ := pair_cells hN
        clear hN
        go_wp2_with fail
        refine (duo_shutdown H9.out.1 m1 m2 true).mono ?_
        rintro e wz ⟨r, Lz, rfl, hO, hD, hK⟩
        obtain ⟨rfl, rfl⟩ := hO.one_none rfl rfl
        have hN := (hK nb rfl).trans H9.out.2
        have H10 := Lib.hid (And.intro hD hN)
        clear hO hD hK H9 n0 n1
        obtain ⟨n0, n1⟩ := pair_cells hN
        clear hN
        go_wp2_with fail
        refine (awake_any _).mono ?_
        rintro e wz ⟨rfl, hf⟩
        have hN := (hf.block nb (H10.out.1.zlt (k := nb) rfl).2 (fun h => h)).trans H10.out.2
        have H11 := Lib.hid (And.intro (H10.out.1.frNo hf) hN)
        clear hf H10 n0 n1
        obtain ⟨n0, n1⟩ := pair_cells hN
        clear hN
        go_wp2_with fail
        refine (duo_close H11.out.1 m1 m2).mono ?_
        rintro e wz ⟨r, Lz, rfl, hO, hD, hK⟩
        obtain ⟨rfl, rfl⟩ := hO.one rfl
        have hN := (hK nb rfl).trans H11.out.2
        have H12 := Lib.hid (And.intro hD hN)
        clear hO hD hK H11 n0 n1
        obtain ⟨n0, n1⟩ := pair_cells hN
        clear hN
        go_wp2_with fail
        refine (duo_state H12.out.1 m1 m2).mono ?_
        rintro e wz ⟨v, rfl, hv, hf⟩
        obtain rfl : v = 0 := hv.none (fun d hd => by simp at hd)
        have hN := (hf.block nb (H12.out.1.zlt (k := nb) rfl).2 (fun h => h)).trans H12.out.2
        have H13 := Lib.hid (And.intro (H12.out.1.frNo hf) hN)
        clear hv hf H12 n0 n1
        obtain ⟨n0, n1⟩ := pair_cells hN
        clear hN
        go_wp2_with fail
        refine (duo_close H13.out.1 m1 m2).mono ?_
        rintro e wz ⟨r, Lz, rfl, hO, hD, hK⟩
        obtain ⟨rfl, rfl⟩ := hO.nil
        have hN := (hK nb rfl).trans H13.out.2
        have H14 := Lib.hid (And.intro hD hN)
        clear hO hD hK H13 n0 n1
        obtain ⟨n0, n1⟩ := pair_cells hN
        clear hN
        go_wp2_with fail
        refine (duo_remote H14.out.1 m1 m2).mono ?_
        rintro e wz ⟨r, Lz, rfl, hO, hD, hK⟩
        obtain ⟨rfl, rfl⟩ := hO.nil
        have hN := (hK nb rfl).trans H14.out.2
        have H15 := Lib.hid (And.intro hD hN)
        clear hO hD hK H14 n0 n1
        obtain ⟨n0, n1⟩ := pair_cells hN
        clear hN
        go_wp2_with fail
        refine (duo_free H15.out.1 0 1 rfl rfl).mono ?_
        rintro e wz ⟨rfl, hf⟩
        have HE := Lib.hid (H15.out.1.frNo hf)
        clear hf H15 n0 n1
        go_wp2_with fail
        go_ret
        exact ⟨rfl, HE.out.fr.below (fun k hk => hk) (Nat.le_refl _)⟩
    | false =>
      cases b1 with
      | true =>
        go_wp2_with fail
        refine (duo_open HC.out.1 m1 m2 false (by omega)).mono ?_
        rintro e wz ⟨no, r, Lz, kz, rfl, hO, hD, hK⟩
        obtain ⟨rfl, rfl, rfl, rfl⟩ := hO.first HVV.out (by omega)
        have hN := (hK nb rfl).trans HC.out.2
        have H0 := Lib.hid (And.intro hD hN)
        clear hO hD hK HC n0 n1
        obtain ⟨n0, n1⟩ := pair_cells hN
        clear hN
        go_wp2_with fail
        refine (duo_connected H0.out.1 m1 m2).mono ?_
        rintro e wz ⟨r, Lz, rfl, hO, hD, hK⟩
        obtain ⟨rfl, rfl⟩ := hO.one_none rfl rfl
        have hN := (hK nb rfl).trans H0.out.2
        have H1 := Lib.hid (And.intro hD hN)
        clear hO hD hK H0 n0 n1
        obtain ⟨n0, n1⟩ := pair_cells hN
        clear hN
        go_wp2_with fail
        refine (duo_shutdown H1.out.1 m1 m2 true).mono ?_
        rintro e wz ⟨r, Lz, rfl, hO, hD, hK⟩
        obtain ⟨rfl, rfl⟩ := hO.one_some rfl rfl
        have hN := (hK nb rfl).trans H1.out.2
        have H2 := Lib.hid (And.intro hD hN)
        clear hO hD hK H1 n0 n1
        obtain ⟨n0, n1⟩ := pair_cells hN
        clear hN
        go_wp2_with fail
        refine (duo_state H2.out.1 m1 m2).mono ?_
        rintro e wz ⟨v, rfl, hv, hf⟩
        obtain rfl : v = 4 := hv.mem H2.out.1.good.sorted (List.mem_singleton.2 rfl) rfl
        have hN := (hf.block nb (H2.out.1.zlt (k := nb) rfl).2 (fun h => h)).trans H2.out.2
        have H3 := Lib.hid (And.intro (H2.out.1.frNo hf) hN)
        clear hv hf H2 n0 n1
        obtain ⟨n0, n1⟩ := pair_cells hN
        clear hN
        go_wp2_with fail
        refine (duo_shutdown H3.out.1 m1 m2 true).mono ?_
        rintro e wz ⟨r, Lz, rfl, hO, hD, hK⟩
        obtain ⟨rfl, rfl⟩ := hO.one_none rfl rfl
        have hN := (hK nb rfl).trans H3.out.2
        have H4 := Lib.hid (And.intro hD hN)
        clear hO hD hK H3 n0 n1
        obtain ⟨n0, n1⟩ := pair_cells hN
        clear hN
        go_wp2_with fail
        refine (duo_shutdown H4.out.1 m1 m2 false).mono ?_
        rintro e wz ⟨r, Lz, rfl, hO, hD, hK⟩
        obtain ⟨rfl, rfl⟩ := hO.one_some rfl rfl
        have hN := (hK nb rfl).trans H4.out.2
        have H5 := Lib.hid (And.intro hD hN)
        clear hO hD hK H4 n0 n1
        obtain ⟨n0, n1⟩ := pair_cells hN
        clear hN
        go_wp2_with fail
        refine (duo_state H5.out.1 m1 m2).mono ?_
        rintro e wz ⟨v, rfl, hv, hf⟩
        obtain rfl : v = 5 := hv.mem H5.out.1.good.sorted (List.mem_singleton.2 rfl) rfl
        have hN := (hf.block nb (H5.out.1.zlt (k := nb) rfl).2 (fun h => h)).trans H5.out.2
        have H6 := Lib.hid (And.intro (H5.out.1.frNo hf) hN)
        clear hv hf H5 n0 n1
        obtain ⟨n0, n1⟩ := pair_cells hN
        clear hN
        go_wp2_with fail
        refine (duo_shutdown H6.out.1 m1 m2 false).mono ?_
        rintro e wz ⟨r, Lz, rfl, hO, hD, hK⟩
        obtain ⟨rfl, rfl⟩ := hO.one_none rfl rfl
        have hN := (hK nb rfl).trans H6.out.2
        have H7 := Lib.hid (And.intro hD hN)
        clear hO hD hK H6 n0 n1
        obtain ⟨n0, n1⟩ := pair_cells hN
        clear hN
        go_wp2_with fail
        refine (awake_any _).mono ?_
        rintro e wz ⟨rfl, hf⟩
        have hN := (hf.block nb (H7.out.1.zlt (k := nb) rfl).2 (fun h => h)).trans H7.out.2
        have H8 := Lib.hid (And.intro (H7.out.1.frNo hf) hN)
        clear hf H7 n0 n1
        obtain ⟨n0, n1⟩ := pair_cells hN
        clear hN
        go_wp2_with fail
        refine (duo_close H8.out.1 m1 m2).mono ?_
        rintro e wz ⟨r, Lz, rfl, hO, hD, hK⟩
        obtain ⟨rfl, rfl⟩ := hO.one rfl
        have hN := (hK nb rfl).trans H8.out.2
        have H9 := Lib.hid (And.intro hD hN)
        clear hO hD hK H8 n0 n1
        obtain ⟨n0, n1⟩ := pair_cells hN
        clear hN
        go_wp2_with fail
        refine (duo_state H9.out.1 m1 m2).mono ?_
        rintro e wz ⟨v, rfl, hv, hf⟩
        obtain rfl : v = 0 := hv.none (fun d hd => by simp at hd)
        have hN := (hf.block nb (H9.out.1.zlt (k := nb) rfl).2 (fun h => h)).trans H9.out.2
        have H10 := Lib.hid (And.intro (H9.out.1.frNo hf) hN)
        clear hv hf H9 n0 n1
        obtain ⟨n0, n1⟩ := pair_cells hN
        clear hN
        go_wp2_with fail
        refine (duo_close H10.out.1 m1 m2).mono ?_
        rintro e wz ⟨r, Lz, rfl, hO, hD, hK⟩
        obtain ⟨rfl, rfl⟩ := hO.nil
        have hN := (hK nb rfl).trans H10.out.2
        have H11 := Lib.hid (And.intro hD hN)
        clear hO hD hK H10 n0 n1
        obtain ⟨n0, n1⟩ := pair_cells hN
        clear hN
        go_wp2_with fail
        refine (duo_remote H11.out.1 m1 m2).mono ?_
        rintro e wz ⟨r, Lz, rfl, hO, hD, hK⟩
        obtain ⟨rfl, rfl⟩ := hO.nil
        have hN := (hK nb rfl).trans H11.out.2
        have H12 := Lib.hid (And.intro hD hN)
        clear hO hD hK H11 n0 n1
        obtain ⟨n0, n1⟩ := pair_cells hN
        clear hN
        go_wp2_with fail
        refine (duo_free H12.out.1 0 1 rfl rfl).mono ?_
        rintro e wz ⟨rfl, hf⟩
        have HE := Lib.hid (H12.out.1.frNo hf)
        clear hf H12 n0 n1
        go_wp2_with fail
        go_ret
        exact ⟨rfl, HE.out.fr.below (fun k hk => hk) (Nat.le_refl _)⟩
      | false =>
        go_wp2_with fail
        refine (duo_open HC.out.1 m1 m2 false (by omega)).mono ?_
        rintro e wz ⟨no, r, Lz, kz, rfl, hO, hD, hK⟩
        obtain ⟨rfl, rfl, rfl, rfl⟩ := hO.first HVV.out (by omega)
        have hN := (hK nb rfl).trans HC.out.2
        have H0 := Lib.hid (And.intro hD hN)
        clear hO hD hK HC n0 n1
        obtain ⟨n0, n1⟩ := pair_cells hN
        clear hN
        go_wp2_with fail
        refine (duo_connected H0.out.1 m1 m2).mono ?_
        rintro e wz ⟨r, Lz, rfl, hO, hD, hK⟩
        obtain ⟨rfl, rfl⟩ := hO.one_none rfl rfl
        have hN := (hK nb rfl).trans H0.out.2
        have H1 := Lib.hid (And.intro hD hN)
        clear hO hD hK H0 n0 n1
        obtain ⟨n0, n1⟩ := pair_cells hN
        clear hN
        go_wp2_with fail
        refine (duo_shutdown H1.out.1 m1 m2 false).mono ?_
        rintro e wz ⟨r, Lz, rfl, hO, hD, hK⟩
        obtain ⟨rfl, rfl⟩ := hO.one_some rfl rfl
        have hN := (hK nb rfl).trans H1.out.2
        have H2 := Lib.hid (And.intro hD hN)
        clear hO hD hK H1 n0 n1
        obtain ⟨n0, n1⟩ := pair_cells hN
        clear hN
        go_wp2_with fail
        refine (duo_state H2.out.1 m1 m2).mono ?_
        rintro e wz ⟨v, rfl, hv, hf⟩
        obtain rfl : v = 3 := hv.mem H2.out.1.good.sorted (List.mem_singleton.2 rfl) rfl
        have hN := (hf.block nb (H2.out.1.zlt (k := nb) rfl).2 (fun h => h)).trans H2.out.2
        have H3 := Lib.hid (And.intro (H2.out.1.frNo hf) hN)
        clear hv hf H2 n0 n1
        obtain ⟨n0, n1⟩ := pair_cells hN
        clear hN
        go_wp2_with fail
        refine (duo_shutdown H3.out.1 m1 m2 false).mono ?_
        rintro e wz ⟨r, Lz, rfl, hO, hD, hK⟩
        obtain ⟨rfl, rfl⟩ := hO.one_none rfl rfl
        have hN := (hK nb rfl).trans H3.out.2
        have H4 := Lib.hid (And.intro hD hN)
        clear hO hD hK H3 n0 n1
        obtain ⟨n0, n1⟩ := pair_cells hN
        clear hN
        go_wp2_with fail
        refine (duo_shutdown H4.out.1 m1 m2 true).mono ?_
        rintro e wz ⟨r, Lz, rfl, hO, hD, hK⟩
        obtain ⟨rfl, rfl⟩ := hO.one_some rfl rfl
        have hN := (hK nb rfl).trans H4.out.2
        have H5 := Lib.hid (And.intro hD hN)
        clear hO hD hK H4 n0 n1
        obtain ⟨n0, n1⟩ := pair_cells hN
        clear hN
        go_wp2_with fail
        refine (duo_state H5.out.1 m1 m2).mono ?_
        rintro e wz ⟨v, rfl, hv, hf⟩
        obtain rfl : v = 5 := hv.mem H5.out.1.good.sorted (List.mem_singleton.2 rfl) rfl
        have hN := (hf.block nb (H5.out.1.zlt (k := nb) rfl).2 (fun h => h)).trans H5.out.2
        have H6 := Lib.hid (And.intro (H5.out.1.frNo hf) hN)
        clear hv hf H5 n0 n1
        obtain ⟨n0, n1⟩ := pair_cells hN
        clear hN
        go_wp2_with fail
        refine (duo_shutdown H6.out.1 m1 m2 true).mono ?_
        rintro e wz ⟨r, Lz, rfl, hO, hD, hK⟩
        obtain ⟨rfl, rfl⟩ := hO.one_none rfl rfl
        have hN := (hK nb rfl).trans H6.out.2
        have H7 := Lib.hid (And.intro hD hN)
        clear hO hD hK H6 n0 n1
        obtain ⟨n0, n1⟩ := pair_cells hN
        clear hN
        go_wp2_with fail
        refine (awake_any _).mono ?_
        rintro e wz ⟨rfl, hf⟩
        have hN := (hf.block nb (H7.out.1.zlt (k := nb) rfl).2 (fun h => h)).trans H7.out.2
        have H8 := Lib.hid (And.intro (H7.out.1.frNo hf) hN)
        clear hf H7 n0 n1
        obtain ⟨n0, n1⟩ := pair_cells hN
        clear hN
        go_wp2_with fail
        refine (duo_close H8.out.1 m1 m2).mono ?_
        rintro e wz ⟨r, Lz, rfl, hO, hD, hK⟩
        obtain ⟨rfl, rfl⟩ := hO.one rfl
        have hN := (hK nb rfl).trans H8.out.2
        have H9 := Lib.hid (And.intro hD hN)
        clear hO hD hK H8 n0 n1
        obtain ⟨n0, n1⟩ := pair_cells hN
        clear hN
        go_wp2_with fail
        refine (duo_state H9.out.1 m1 m2).mono ?_
        rintro e wz ⟨v, rfl, hv, hf⟩
        obtain rfl : v = 0 := hv.none (fun d hd => by simp at hd)
        have hN := (hf.block nb (H9.out.1.zlt (k := nb) rfl).2 (fun h => h)).trans H9.out.2
        have H10 := Lib.hid (And.intro (H9.out.1.frNo hf) hN)
        clear hv hf H9 n0 n1
        obtain ⟨n0, n1⟩ := pair_cells hN
        clear hN
        go_wp2_with fail
        refine (duo_close H10.out.1 m1 m2).mono ?_
        rintro e wz ⟨r, Lz, rfl, hO, hD, hK⟩
        obtain ⟨rfl, rfl⟩ := hO.nil
        have hN := (hK nb rfl).trans H10.out.2
        have H11 := Lib.hid (And.intro hD hN)
        clear hO hD hK H10 n0 n1
        obtain ⟨n0, n1⟩ := pair_cells hN
        clear hN
        go_wp2_with fail
        refine (duo_remote H11.out.1 m1 m2).mono ?_
        rintro e wz ⟨r, Lz, rfl, hO, hD, hK⟩
        obtain ⟨rfl, rfl⟩ := hO.nil
        have hN := (hK nb rfl).trans H11.out.2
        have H12 := Lib.hid (And.intro hD hN)
        clear hO hD hK H11 n0 n1
        obtain ⟨n0, n1⟩ := pair_cells hN
        clear hN
        go_wp2_with fail
        refine (duo_free H12.out.1 0 1 rfl rfl).mono ?_
        rintro e wz ⟨rfl, hf⟩
        have HE := Lib.hid (H12.out.1.frNo hf)
        clear hf H12 n0 n1
        go_wp2_with fail
        go_ret
        exact ⟨rfl, HE.out.fr.below (fun k hk => hk) (Nat.le_refl _)⟩

end Go.Proofs.Ytanhjjinedjaaaa
