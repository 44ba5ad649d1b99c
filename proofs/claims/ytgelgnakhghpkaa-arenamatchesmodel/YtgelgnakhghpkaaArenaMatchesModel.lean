/-
  The law ArenaMatchesModel returns true for every number and every list of operations, and changes nothing that was in memory before.
  Conditions: none beyond the row's own.
-/
import Derived.Test.YtgelgnakhghpkaaOps
import Derived.WalkKit
import Derived.ProofKit
import Derived.OpenShut
import Derived.ShutString
import Derived.ChangeOld
import Derived.Below
import Derived.Deep.DeepCutAuto
import Derived.Deep.CutBlock
import Derived.Deep.RegionHeld3
namespace Go.Proofs.Ytgelgnakhghpkaa.arenaMatchesModel
open Go.ChangeShapes Go.WideShapes Go.ChangeAt Go.RowKit
open Go.ChangeMaps (open_string shut_string)
set_option linter.unusedVariables false

theorem own : ownKnob Try.prog.godebug = none := by kernel_rfl
theorem laidOut : laidOutB Try.prog = true := by kernel_rfl

set_option maxHeartbeats 16000000 in
set_option maxRecDepth 1000000 in
theorem walk (a0 : Int) (a1 : Option Addr) (len1 cap1 : Nat) (w : World) (w0 : (Lit.int .i64 a0).wf = true) (w1 : OpRow w a1 len1) :
    Calls Try.prog 4 #[.int .i64 a0, .slice a1 len1 cap1] w fun e w' => e = .returned (.bool true) ∧ Below w.heap.size w w' := by
  have HI := Lib.hid w1
  have hlen := HI.out.1
  have b0 := bounds_i64 w0
  clear w0 w1
  obtain ⟨i0, hi0, hz0, hz1, hz2⟩ := info_parts infoR
  go_enter Try.func4, Try.ntmps4
  go_wp2_with fail
  refine (mod_at a0 8 8 _ rfl (by omega) (by omega) b0).mono ?_
  rintro e wm ⟨r, hr, -, rfl, hwm⟩
  have hwm' := hwm.symm
  subst hwm'
  clear hwm
  obtain ⟨k, hk⟩ : ∃ k : Nat, k = 1 + r := ⟨_, rfl⟩
  have hk' : (1 : Int) + (r : Int) = (k : Int) := by omega
  have hk2 : 1 ≤ k ∧ k ≤ 8 := by omega
  clear hk hr
  go_wp2_with fail
  refine (I.new_ok (fun j => w.heap.size ≤ j) k _ (by omega) (by omega) (fun j hj => hj)).mono ?_
  rintro e w1 ⟨hb, rfl, hhb, hA1, hf1⟩
  have H1 := Lib.hid (sd_born hA1 (fun j hj => hj) hf1 hk2.2)
  have hmk : ∀ w : World, (Instr.makeSlice 34 (.int .i64 (k : Int)) (.int .i64 (k : Int))).run Try.prog w = .ok (.slice (some ⟨w.heap.size, 0, none⟩) k k) (w.alloc (.cells (madeCells #[.int .i64 0, .bool false, .int .i64 0] (k * 3)) 45)) := by
    intro w
    have := run_make (P := Try.prog) w 34 45 i0 _ Try.underlying34 hi0 hz0 .i64 .i64 k k (by omega) (by omega) (by rw [hz2]; omega) (by omega)
    simpa [hz1, Value.cells] using this
  clear hA1 hf1 hhb
  go_wp2_with fail
  obtain ⟨g, hg⟩ : ∃ g, w1.heap.size = g := ⟨_, rfl⟩
  rw [hg] at H1 ⊢
  obtain ⟨xb, hxb⟩ : ∃ xb, g + 1 = xb := ⟨_, rfl⟩
  rw [hxb] at H1 ⊢
  clear hmk hg hxb
  revert H1
  generalize (w1.alloc (.cells (madeCells #[.int .i64 0, .bool false, .int .i64 0] (k * 3)) 45)).alloc (.cells #[.slice (some ⟨g, 0, none⟩) k k] 36) = w2
  intro H1
  go_loopg [9] 91 (fun gg s wr => ∃ (i : Nat) (A : List Slot) (R : List RS), s = .int .i64 i ∧ i ≤ 90 ∧ 90 - i < gg ∧ Hid (Sd w wr hb xb g k A R (i : Nat) (i : Nat) (fun _ => False) ∧ Mt A R))
  case atStart => exact ⟨0, [], List.replicate k ⟨0, false, 0⟩, by go_num, by omega, by omega, H1.out, mt_born k⟩
  case round =>
    obtain ⟨i, A, R, rfl, hi90, hig, HR⟩ := hrel
    clear H1
    by_cases hin : i < len1 ∧ i < 90
    · obtain ⟨hin1, hin2⟩ := hin
      obtain ⟨kd, ri, rg, x, hop, bk, bi, bg⟩ := HI.out.2 i hin1
      obtain ⟨b, off, rfl, c0, c1, c2, c3⟩ := hop.fr HR.out.1.uno.fr (fun j hj => hj)
      have p1 : (0 : Int) ≤ (i : Int) := by omega
      have p2 : (i : Int) < (len1 : Int) := by omega
      have p3 : (i : Int) < 90 := by omega
      clear hop
      go_wp2_with fail
      have HD : Hid (Sd w ((wr.alloc (.cells #[.int .i64 kd, .int .i64 ri, .int .i64 rg, .int .i64 x] 40)).alloc (.cells #[.int .i64 ri, .int .i64 rg] 38)) hb xb g k A R (i : Nat) (i : Nat) (fun j => j = wr.heap.size ∨ j = wr.heap.size + 1)) :=
        ((HR.out.1.box _).box _).less fun j hj => by
          rcases hj with rfl | rfl
          · exact .inl (.inr rfl)
          · exact .inr (by simp)
      have HO : Hid (((wr.alloc (.cells #[.int .i64 kd, .int .i64 ri, .int .i64 rg, .int .i64 x] 40)).alloc (.cells #[.int .i64 ri, .int .i64 rg] 38)).heap[wr.heap.size]? = some (.cells #[.int .i64 kd, .int .i64 ri, .int .i64 rg, .int .i64 x] 40 (0, 0))) := (Below.heap_alloc _ _ _ (by simp)).trans (heap_alloc_new wr _)
      have HB : Hid (((wr.alloc (.cells #[.int .i64 kd, .int .i64 ri, .int .i64 rg, .int .i64 x] 40)).alloc (.cells #[.int .i64 ri, .int .i64 rg] 38)).heap[wr.heap.size + 1]? = some (.cells #[.int .i64 ri, .int .i64 rg] 38 (0, 0))) := heap_alloc2_new wr _ _
      have HMT := Lib.hid HR.out.2
      obtain ⟨ob, hob⟩ : ∃ ob, wr.heap.size = ob := ⟨_, rfl⟩
      rw [hob] at HD HO HB ⊢
      obtain ⟨rb, hrb⟩ : ∃ rb, ob + 1 = rb := ⟨_, rfl⟩
      rw [hrb] at HD HB ⊢
      have hrob : rb ≠ ob := by omega
      have horb : ob ≠ rb := Ne.symm hrob
      clear hob hrb HR c0 c1 c2 c3
      revert HD; revert HO; revert HB
      generalize (wr.alloc (.cells #[.int .i64 kd, .int .i64 ri, .int .i64 rg, .int .i64 x] 40)).alloc (.cells #[.int .i64 ri, .int .i64 rg] 38) = wb
      intro HB HO HD
      refine (mod_at rg 7 7 _ rfl (by omega) (by omega) bg).mono ?_
      rintro e wm ⟨m7, hm7, -, rfl, hwm⟩
      have hwm' := hwm.symm
      subst hwm'
      clear hwm
      go_upto_if 59 with fail
      go_cut [11] (fun s11 wx => s11 = .pointer (some ⟨rb, 0, none⟩) ∧ ∃ (hx hg : Int), Hid (Sd w wx hb xb g k A R (i : Nat) (i : Nat) (fun j => j = ob ∨ j = rb) ∧ wx.heap[ob]? = some (.cells #[.int .i64 kd, .int .i64 ri, .int .i64 rg, .int .i64 x] 40 (0, 0)) ∧ wx.heap[rb]? = some (.cells #[.int .i64 hx, .int .i64 hg] 38 (0, 0))))
      case first =>
        by_cases hm6 : m7 < 6
        · have q1 : (m7 : Int) < 6 := by omega
          go_wp2_with fail
          refine region_tail 9 (by kernel_rfl) (by kernel_rfl) ?_
          intro z hz
          have HZ : Hid (Sd w z hb xb g k A R (i : Nat) (i : Nat) (fun j => j = ob ∨ j = rb) ∧ z.heap[ob]? = some (.cells #[.int .i64 kd, .int .i64 ri, .int .i64 rg, .int .i64 x] 40 (0, 0)) ∧ z.heap[rb]? = some (.cells #[.int .i64 ri, .int .i64 rg] 38 (0, 0))) := by subst hz; exact ⟨HD.out.frNo (Fr.drew No _), HO.out, HB.out⟩
          obtain ⟨u0, u1⟩ := pair_cells HZ.out.2.2
          clear hz HD HO HB
          simp only [List.take_succ_cons, List.take_zero, List.drop_succ_cons, List.drop_zero]
          obtain ⟨r1, hr1, hC1⟩ := mod_fix ri k k rfl hk2.1 (by omega) bi
          obtain ⟨r2, hr2, hC2⟩ := mod_fix rg 4 4 rfl (by omega) (by omega) bg
          have HC1 := Lib.hid hC1
          have HC2 := Lib.hid hC2
          have z0 : z.frozen? ⟨rb, 0, none⟩ = false := frozen_of_row _ _ _ _ _ HZ.out.2.2
          have z1 : z.frozen? ⟨rb, 1, none⟩ = false := frozen_of_row _ _ _ _ _ HZ.out.2.2
          clear hC1 hC2
          iterate 3 still_step
          still_call (HC1.out _)
          iterate 2 still_step
          still_call (HC2.out _)
          iterate 2 still_step
          refine wpStill_nil ?_
          go_wp2_with fail
          go_meet
          refine ⟨rfl, (r1 : Int), 1 + (r2 : Int), HZ.out.1.e (.inr rfl) (two_fr _ _) (HZ.out.1.apart HZ.out.2.2 (by decide)).1 (HZ.out.1.apart HZ.out.2.2 (by decide)).2, ?_, two_set HZ.out.2.2 _ _⟩
          exact ((two_fr (w := z) (rb := rb) _ _).block ob (HZ.out.1.elt (.inl rfl)) horb).trans HZ.out.2.1
        · have q1 : ¬ ((m7 : Int) < 6) := by omega
          go_wp2_with fail
          go_meet
          exact ⟨rfl, ri, rg, HD.out, HO.out, HB.out⟩
      case rest =>
        obtain ⟨rfl, hx, hg, HC⟩ := hcut
        clear HD HO HB hm7
        obtain ⟨u0, u1⟩ := pair_cells HC.out.2.2
        go_wp2_with fail
        refine (valid_any xb g k R _ hx hg _ HC.out.1.ref).mono ?_
        rintro e w3 ⟨is, rfl, hyes, hno, hf3⟩
        have H3 : Hid (Sd w w3 hb xb g k A R (i : Nat) (i : Nat) (fun j => j = ob ∨ j = rb) ∧ w3.heap[ob]? = some (.cells #[.int .i64 kd, .int .i64 ri, .int .i64 rg, .int .i64 x] 40 (0, 0)) ∧ w3.heap[rb]? = some (.cells #[.int .i64 hx, .int .i64 hg] 38 (0, 0))) :=
          ⟨HC.out.1.frNo hf3, (hf3.block ob (HC.out.1.elt (.inl rfl)) (fun h => h)).trans HC.out.2.1, (hf3.block rb (HC.out.1.elt (.inr rfl)) (fun h => h)).trans HC.out.2.2⟩
        have HY := Lib.hid (And.intro hyes hno)
        clear hf3 HC u0 u1 hyes hno
        have o0 : w3.cell? ⟨ob, 0, none⟩ = some (.int .i64 kd) := by rw [cell_of_row _ _ 0 _ _ _ H3.out.2.1]; rfl
        go_wp2_with fail
        refine (mod_at kd 7 7 _ rfl (by omega) (by omega) bk).mono ?_
        rintro e wm ⟨m, hm, -, rfl, hwm⟩
        have hwm' := hwm.symm
        subst hwm'
        clear hwm o0
        go_upto_block 2 with fail
        go_cut [13] (fun s13 wx => s13 = .bool true ∧ ∃ (A' : List Slot) (R' : List RS), Hid (Sd w wx hb xb g k A' R' ((i : Nat) + 1) ((i : Nat) + 1) (fun j => j = rb) ∧ Mt A' R' ∧ wx.heap[rb]? = some (.cells #[.int .i64 hx, .int .i64 hg] 38 (0, 0))))
        case first =>
          have o3 : w3.cell? ⟨ob, 3, none⟩ = some (.int .i64 x) := by rw [cell_of_row _ _ 3 _ _ _ H3.out.2.1]; rfl
          by_cases hm4 : m < 4
          · have q1 : (m : Int) < 4 := by omega
            obtain ⟨S1, hT1, hS1, hB1⟩ := H3.out.1.t
            have HT := Lib.hid (And.intro hT1 (And.intro hS1 hB1))
            clear hT1 hS1 hB1
            by_cases hfull : cnt A = k
            · have HFU := Lib.hid hfull
              clear hfull
              go_wp2_with fail
              refine (I.alloc_full S1 hb A k _ x _ HT.out.1 HFU.out).mono ?_
              rintro e w5 ⟨rfl, hf5⟩
              have hF5 := hf5.trans (Fr.alloc No w5 (.cells #[.int .i64 0, .int .i64 0] 38))
              have H5 := Lib.hid ((H3.out.1.frNo hf5).box (.cells #[.int .i64 0, .int .i64 0] 38))
              have HO5 := Lib.hid ((hF5.block ob (H3.out.1.elt (.inl rfl)) (fun h => h)).trans H3.out.2.1)
              have HB5 := Lib.hid ((hF5.block rb (H3.out.1.elt (.inr rfl)) (fun h => h)).trans H3.out.2.2)
              have HP5 : Hid ((w5.alloc (.cells #[.int .i64 0, .int .i64 0] 38)).heap[w5.heap.size]? = some (.cells #[.int .i64 0, .int .i64 0] 38 (0, 0))) := heap_alloc_new w5 _
              have o5 : (w5.alloc (.cells #[.int .i64 0, .int .i64 0] 38)).cell? ⟨ob, 3, none⟩ = some (.int .i64 x) := by rw [cell_of_row _ _ 3 _ _ _ HO5.out]; rfl
              clear hf5 hF5 o3 HT
              go_wp2_with fail
              obtain ⟨pb, hpb⟩ : ∃ pb, w5.heap.size = pb := ⟨_, rfl⟩
              rw [hpb] at H5 HP5 ⊢
              clear hpb o5 HO5
              revert H5; revert HB5; revert HP5
              generalize w5.alloc (.cells #[.int .i64 0, .int .i64 0] 38) = w6
              intro HP5 HB5 H5
              refine (alloc_ref_full xb g k R _ x _ H5.out.ref (HMT.out.full (by rw [H5.out.ref.len]; exact HFU.out))).mono ?_
              rintro e w7 ⟨rfl, hf7⟩
              have hF7 := hf7.trans (Fr.alloc No w7 (.cells #[.int .i64 0, .int .i64 0] 38))
              obtain ⟨v0, v1⟩ := pair_cells ((hF7.block pb (H5.out.elt (.inr rfl)) (fun h => h)).trans HP5.out)
              have H7 := Lib.hid (And.intro (H5.out.frNo hF7) ((hF7.block rb (H5.out.elt (.inl (.inr rfl))) (fun h => h)).trans HB5.out))
              clear hf7 hF7 H5 HB5 HP5 H3
              go_wp2_with fail
              go_meet
              exact ⟨by simp, A, R, (H7.out.1.less fun j hj => .inl (.inr hj)).up (by omega) (by omega), HMT.out, H7.out.2⟩
            · have HFU : Hid (cnt A < k) := by have h1 := cnt_le A; have h2 := H3.out.1.uno.good.len; show cnt A < k; omega
              clear hfull
              go_wp2_with fail
              refine (I.alloc_ok S1 hb A k _ x _ HT.out.1 HT.out.2.1 HFU.out (by omega)).mono ?_
              rintro e w5 ⟨i4, gn, A4, rfl, hput, hA5, hf5⟩
              obtain ⟨h5, hz5⟩ := HT.out.2.2 _ _ _ hA5 hf5
              have hlt : i4 < R.length := hput.lt (by rw [h5.ref.len]; exact h5.uno.good.len)
              obtain ⟨hFR, r4, hr4, hu4, rfl, hmt4⟩ := HMT.out.put hput hlt
              have H5 := Lib.hid (h5.box (.cells #[.int .i64 (i4 : Int), .int .i64 (r4.gen + 1)] 38))
              have hO5 := (hz5 ob (.inl rfl)).trans H3.out.2.1
              have hB5 := (hz5 rb (.inr rfl)).trans H3.out.2.2
              have HO5 : Hid ((w5.alloc (.cells #[.int .i64 (i4 : Int), .int .i64 (r4.gen + 1)] 38)).heap[ob]? = some (.cells #[.int .i64 kd, .int .i64 ri, .int .i64 rg, .int .i64 x] 40 (0, 0))) := (Below.heap_alloc _ _ _ (Array.getElem?_eq_some_iff.1 hO5).1).trans hO5
              have HB5 : Hid ((w5.alloc (.cells #[.int .i64 (i4 : Int), .int .i64 (r4.gen + 1)] 38)).heap[rb]? = some (.cells #[.int .i64 hx, .int .i64 hg] 38 (0, 0))) := (Below.heap_alloc _ _ _ (Array.getElem?_eq_some_iff.1 hB5).1).trans hB5
              have HP5 : Hid ((w5.alloc (.cells #[.int .i64 (i4 : Int), .int .i64 (r4.gen + 1)] 38)).heap[w5.heap.size]? = some (.cells #[.int .i64 (i4 : Int), .int .i64 (r4.gen + 1)] 38 (0, 0))) := heap_alloc_new w5 _
              have HRF := Lib.hid (And.intro hFR (And.intro hr4 (And.intro hu4 hmt4)))
              have o5 : (w5.alloc (.cells #[.int .i64 (i4 : Int), .int .i64 (r4.gen + 1)] 38)).cell? ⟨ob, 3, none⟩ = some (.int .i64 x) := by rw [cell_of_row _ _ 3 _ _ _ HO5.out]; rfl
              clear hput hA5 hf5 h5 hz5 hlt hFR hr4 hu4 hmt4 hO5 hB5 o3 HT HO5 H3
              go_wp2_with fail
              obtain ⟨pb, hpb⟩ : ∃ pb, w5.heap.size = pb := ⟨_, rfl⟩
              rw [hpb] at H5 HP5 ⊢
              clear hpb o5
              revert H5; revert HB5; revert HP5
              generalize w5.alloc (.cells #[.int .i64 (i4 : Int), .int .i64 (r4.gen + 1)] 38) = w6
              intro HP5 HB5 H5
              refine (alloc_ref_ok xb g k R _ x i4 r4 _ H5.out.ref HRF.out.1 HRF.out.2.1 HRF.out.2.2.1 (by omega)).mono ?_
              rintro e w7 ⟨rfl, hr7, hf7⟩
              have hpg := (H5.out.apart HP5.out (by decide)).2
              have hrg' := (H5.out.apart HB5.out (by decide)).2
              have h7 := H5.out.x hr7 hf7
              have hP7 := (hf7.block pb (H5.out.elt (.inr rfl)) hpg).trans HP5.out
              have hB7 := (hf7.block rb (H5.out.elt (.inl (.inr rfl))) hrg').trans HB5.out
              obtain ⟨v0, v1⟩ := pair_cells ((Below.heap_alloc w7 (.cells #[.int .i64 (i4 : Int), .int .i64 (r4.gen + 1)] 38) _ (Array.getElem?_eq_some_iff.1 hP7).1).trans hP7)
              have H7 := Lib.hid (And.intro (h7.frNo (Fr.alloc No w7 (.cells #[.int .i64 (i4 : Int), .int .i64 (r4.gen + 1)] 38))) ((Below.heap_alloc w7 (.cells #[.int .i64 (i4 : Int), .int .i64 (r4.gen + 1)] 38) _ (Array.getElem?_eq_some_iff.1 hB7).1).trans hB7))
              clear hr7 hf7 hpg hrg' h7 hP7 hB7 H5 HB5 HP5
              go_wp2_with fail
              go_meet
              exact ⟨by simp, A4, _, H7.out.1.less fun j hj => .inl (.inr hj), HRF.out.2.2.2, H7.out.2⟩
          · by_cases hm6 : m < 6
            · have q1 : ¬ ((m : Int) < 4) := by omega
              have q2 : (m : Int) < 6 := by omega
              obtain ⟨u0, u1⟩ := pair_cells H3.out.2.2
              obtain ⟨S1, hT1, hS1, hB1⟩ := H3.out.1.t
              have HT := Lib.hid (And.intro hT1 (And.intro hS1 hB1))
              clear hT1 hS1 hB1 o3
              cases is with
              | false =>
                have HDE := Lib.hid (HMT.out.dead (HY.out.2 rfl))
                clear HY
                go_wp2_with fail
                refine (I.free_miss S1 hb A k _ hx hg _ HT.out.1 HDE.out).mono ?_
                rintro e w5 ⟨rfl, hf5⟩
                have H5 := Lib.hid (And.intro (H3.out.1.frNo hf5) ((hf5.block rb (H3.out.1.elt (.inr rfl)) (fun h => h)).trans H3.out.2.2))
                clear hf5 HT u0 u1 H3
                go_wp2_with fail
                go_meet
                exact ⟨by simp, A, R, (H5.out.1.less fun j hj => .inr hj).up (by omega) (by omega), HMT.out, H5.out.2⟩
              | true =>
                obtain ⟨i', r', hl⟩ := HY.out.1 rfl
                have hlive := HMT.out.live hl
                have HL := Lib.hid (And.intro hlive hl)
                clear hlive hl
                go_wp2_with fail
                refine (I.free_hit S1 hb A k _ hx hg i' r'.val _ HT.out.1 HL.out.1).mono ?_
                rintro e w5 ⟨rfl, hA5, hf5⟩
                obtain ⟨h5, hz5⟩ := HT.out.2.2 _ _ _ hA5 hf5
                have hB5 := (hz5 rb (.inr rfl)).trans H3.out.2.2
                obtain ⟨v0, v1⟩ := pair_cells hB5
                have c0 := h5.ref.hcell
                obtain ⟨e0, e1, e2⟩ := h5.ref.ecells HL.out.2.2.1
                have f1 := h5.ref.efrozen (i' * 3 + 1)
                have hik : i' < k := by rw [← h5.ref.len]; exact (List.getElem?_eq_some_iff.1 HL.out.2.2.1).1
                rw [HL.out.2.1] at v0
                have q3 : (0 : Int) ≤ (i' : Int) := by omega
                have q4 : (i' : Int) < (k : Int) := by omega
                have H5 := Lib.hid (And.intro h5 hB5)
                clear hA5 hf5 h5 hz5 hB5 u0 u1 HT H3
                go_wp2_with fail
                go_region
                all_goals (
                  go_wp2_with fail
                  go_meet
                  obtain ⟨hlv, hl1, hl2, hl3, hl4⟩ := HL.out
                  have hgn := H5.out.1.ref.gen r' (List.mem_of_getElem? hl2)
                  have p5 := H5.out.1.ref.put hl2 (j := 1) (v := .bool false) (s' := ⟨r'.gen, false, r'.val⟩) rfl (by omega) (Int.le_refl _) hgn
                  have h6 := (H5.out.1.x p5 (Fr.setCell (fun j => j = g) _ ⟨g, i' * 3 + 1, none⟩ _ rfl)).frNo (Fr.drew No _)
                  refine ⟨rfl, _, _, (h6.less fun j hj => .inr hj).up (by omega) (by omega), HMT.out.set (List.getElem?_eq_some_iff.1 hlv.2.1).1 ⟨rfl, hl4.symm, fun h => by cases h⟩, ?_⟩
                  exact (heap_setCell_other _ _ _ _ (H5.out.1.apart H5.out.2 (by decide)).2).trans H5.out.2)
            · have q1 : ¬ ((m : Int) < 4) := by omega
              have q2 : ¬ ((m : Int) < 6) := by omega
              obtain ⟨u0, u1⟩ := pair_cells H3.out.2.2
              obtain ⟨S1, hT1, hS1, hB1⟩ := H3.out.1.t
              have HT := Lib.hid (And.intro hT1 (And.intro hS1 hB1))
              clear hT1 hS1 hB1
              cases is with
              | false =>
                have HDE := Lib.hid (HMT.out.dead (HY.out.2 rfl))
                clear HY
                go_wp2_with fail
                refine (I.set_miss S1 hb A k _ hx hg x _ HT.out.1 HDE.out).mono ?_
                rintro e w5 ⟨rfl, hf5⟩
                have H5 := Lib.hid (And.intro (H3.out.1.frNo hf5) ((hf5.block rb (H3.out.1.elt (.inr rfl)) (fun h => h)).trans H3.out.2.2))
                clear hf5 HT u0 u1 o3 H3
                go_wp2_with fail
                go_meet
                exact ⟨by simp, A, R, (H5.out.1.less fun j hj => .inr hj).up (by omega) (by omega), HMT.out, H5.out.2⟩
              | true =>
                obtain ⟨i', r', hl⟩ := HY.out.1 rfl
                have hlive := HMT.out.live hl
                have HL := Lib.hid (And.intro hlive hl)
                clear hlive hl
                go_wp2_with fail
                refine (I.set_hit S1 hb A k _ hx hg i' r'.val x _ HT.out.1 HL.out.1).mono ?_
                rintro e w5 ⟨rfl, hA5, hf5⟩
                obtain ⟨h5, hz5⟩ := HT.out.2.2 _ _ _ hA5 hf5
                have hB5 := (hz5 rb (.inr rfl)).trans H3.out.2.2
                have hO5 := (hz5 ob (.inl rfl)).trans H3.out.2.1
                obtain ⟨v0, v1⟩ := pair_cells hB5
                have o5 : w5.cell? ⟨ob, 3, none⟩ = some (.int .i64 x) := by rw [cell_of_row _ _ 3 _ _ _ hO5]; rfl
                have c0 := h5.ref.hcell
                obtain ⟨e0, e1, e2⟩ := h5.ref.ecells HL.out.2.2.1
                have f2 := h5.ref.efrozen (i' * 3 + 2)
                have hik : i' < k := by rw [← h5.ref.len]; exact (List.getElem?_eq_some_iff.1 HL.out.2.2.1).1
                rw [HL.out.2.1] at v0
                have q3 : (0 : Int) ≤ (i' : Int) := by omega
                have q4 : (i' : Int) < (k : Int) := by omega
                have H5 := Lib.hid (And.intro h5 hB5)
                clear hA5 hf5 h5 hz5 hB5 hO5 u0 u1 o3 HT H3
                go_wp2_with fail
                go_region
                all_goals (
                  go_wp2_with fail
                  go_meet
                  obtain ⟨hlv, hl1, hl2, hl3, hl4⟩ := HL.out
                  have hgn := H5.out.1.ref.gen r' (List.mem_of_getElem? hl2)
                  have p5 := H5.out.1.ref.put hl2 (j := 2) (v := .int .i64 x) (s' := ⟨r'.gen, true, x⟩) (by simp [encR, hl3]) (by omega) (Int.le_refl _) hgn
                  have h6 := (H5.out.1.x p5 (Fr.setCell (fun j => j = g) _ ⟨g, i' * 3 + 2, none⟩ _ rfl)).frNo (Fr.drew No _)
                  refine ⟨rfl, _, _, (h6.less fun j hj => .inr hj).up (by omega) (by omega), HMT.out.set (List.getElem?_eq_some_iff.1 hlv.2.1).1 ⟨rfl, hl4.symm, fun _ => rfl⟩, ?_⟩
                  exact (heap_setCell_other _ _ _ _ (H5.out.1.apart H5.out.2 (by decide)).2).trans H5.out.2)
        case rest =>
          obtain ⟨rfl, A', R', HZ⟩ := hcut
          clear HY H3 HMT
          obtain ⟨u0, u1⟩ := pair_cells HZ.out.2.2
          obtain ⟨n, hn⟩ : ∃ n, cnt A' = n := ⟨_, rfl⟩
          obtain ⟨L, hL⟩ : ∃ L, handsR R' = L := ⟨_, rfl⟩
          have hLn : L.length = n := by rw [← hL, ← HZ.out.2.1.hands, hands_length]; exact hn
          have hn8 : n ≤ 1000 := by have h1 := cnt_le A'; have h2 := HZ.out.1.uno.good.len; omega
          have HL := Lib.hid (And.intro hn (And.intro (HZ.out.2.1.hands.trans hL) (And.intro hL hLn)))
          clear hn hL hLn
          obtain ⟨S1, hT1⟩ := HZ.out.1.uno.at_
          have HT := Lib.hid hT1
          clear hT1
          by_cases hlive : ∃ i' r', LiveR R' hx hg i' r'
          · obtain ⟨i', r', hxi, hr', hu', hg'⟩ := hlive
            subst hxi
            subst hg'
            have hl : LiveR R' (i' : Int) r'.gen i' r' := ⟨rfl, hr', hu', rfl⟩
            have HV := Lib.hid (And.intro (HZ.out.2.1.live hl) hl)
            clear hl hr' hu'
            go_wp2_with fail
            refine (I.get_hit S1 hb A' k _ (i' : Int) r'.gen i' r'.val _ HT.out HV.out.1).mono ?_
            rintro e w5 ⟨rfl, hf5⟩
            obtain ⟨v0, v1⟩ := pair_cells ((hf5.block rb (HZ.out.1.elt rfl) (fun h => h)).trans HZ.out.2.2)
            have HC := Lib.hid hf5
            clear hf5 u0 u1
            go_wp2_with fail
            refine (valid_hit xb g k R' _ (i' : Int) r'.gen i' r' _ (HZ.out.1.ref.frNo HC.out) HV.out.2).mono ?_
            rintro e w6 ⟨rfl, hf6⟩
            have hC := HC.out.trans hf6
            clear v0 v1
            obtain ⟨v0, v1⟩ := pair_cells ((hC.block rb (HZ.out.1.elt rfl) (fun h => h)).trans HZ.out.2.2)
            have c0 := (HZ.out.1.ref.frNo hC).hcell
            obtain ⟨e0, e1, e2⟩ := (HZ.out.1.ref.frNo hC).ecells HV.out.2.2.1
            have hik : i' < k := by rw [← HZ.out.1.ref.len]; exact (List.getElem?_eq_some_iff.1 HV.out.2.2.1).1
            have q3 : (0 : Int) ≤ (i' : Int) := by omega
            have q4 : (i' : Int) < (k : Int) := by omega
            have HC6 := Lib.hid hC
            clear hf6 hC HC
            go_wp2_with fail
            go_quiet (fail)
            obtain ⟨y, hy⟩ : ∃ y, w6.drewN nq = y := ⟨_, rfl⟩
            rw [hy]
            have HC : Hid (Fr No wc y) := by rw [← hy]; exact HC6.out.trans (Fr.drewN No _ nq)
            clear v0 v1 c0 e0 e1 e2 hy HC6
            obtain ⟨v0, v1⟩ := pair_cells ((HC.out.block rb (HZ.out.1.elt rfl) (fun h => h)).trans HZ.out.2.2)
            go_wp2_with (first
              | (go_at_call 13; refine (valid_hit xb g k R' _ (i' : Int) r'.gen i' r' _ (HZ.out.1.ref.frNo HC.out) HV.out.2).mono ?_; rintro e wq ⟨rfl, hfq⟩; have HC := Lib.hid (HC.out.trans hfq); clear hfq)
              | (go_at_call 11; refine (handles_n S1 hb A' k _ n L _ (HT.out.frNo HC.out) HL.out.1 HL.out.2.1).mono ?_; rintro e wq ⟨sa, sc, rfl, hha, hfq⟩; have HC := Lib.hid (HC.out.trans hfq); have HHA := Lib.hid hha; clear hfq hha)
              | (go_at_call 20; refine (handles_ref_n xb g k R' _ n L _ (HZ.out.1.ref.frNo HC.out) HL.out.2.2.1 HL.out.2.2.2).mono ?_; rintro e wq ⟨ta, tc, rfl, hhb, hfq⟩; have HC := Lib.hid (HC.out.trans hfq); have HHB := Lib.hid hhb; have HHA := Lib.hid (HHA.out.fr hfq); clear hfq hhb)
              | (go_at_call 19; refine (equal_same sa ta n sc tc L _ HHA.out HHB.out hn8).mono ?_; rintro e wq ⟨rfl, hfq⟩; have HC := Lib.hid (HC.out.trans hfq); have HHA := Lib.hid (HHA.out.fr hfq); clear hfq)
              | (go_at_call 10; refine (len_n S1 hb A' k _ n _ (HT.out.frNo HC.out) HL.out.1).mono ?_; rintro e wq ⟨rfl, rfl⟩)
              | (go_at_call 9; refine (I.cap_any S1 hb A' k _ _ (HT.out.frNo HC.out)).mono ?_; rintro e wq ⟨rfl, rfl⟩))
            all_goals (
              go_roundg (90 - i)
              case measure => omega
              case rel => exact ⟨i + 1, A', R', by go_num, by omega, by omega, by push_cast; exact (HZ.out.1.frNo HC.out).less fun j hj => hj.elim, HZ.out.2.1⟩)
          · have hdead : ∀ i' r', ¬ LiveR R' hx hg i' r' := fun i' r' h => hlive ⟨i', r', h⟩
            have HV := Lib.hid (And.intro (HZ.out.2.1.dead hdead) hdead)
            clear hdead hlive
            go_wp2_with fail
            refine (I.get_miss S1 hb A' k _ hx hg _ HT.out HV.out.1).mono ?_
            rintro e w5 ⟨rfl, hf5⟩
            obtain ⟨v0, v1⟩ := pair_cells ((hf5.block rb (HZ.out.1.elt rfl) (fun h => h)).trans HZ.out.2.2)
            have HC := Lib.hid hf5
            clear hf5 u0 u1
            go_wp2_with fail
            refine (valid_miss xb g k R' _ hx hg _ (HZ.out.1.ref.frNo HC.out) HV.out.2).mono ?_
            rintro e w6 ⟨rfl, hf6⟩
            have hC := HC.out.trans hf6
            clear v0 v1 HC
            obtain ⟨v0, v1⟩ := pair_cells ((hC.block rb (HZ.out.1.elt rfl) (fun h => h)).trans HZ.out.2.2)
            have HC := Lib.hid hC
            clear hf6 hC
            go_wp2_with (first
              | (go_at_call 13; refine (valid_miss xb g k R' _ hx hg _ (HZ.out.1.ref.frNo HC.out) HV.out.2).mono ?_; rintro e wq ⟨rfl, hfq⟩; have HC := Lib.hid (HC.out.trans hfq); clear hfq)
              | (go_at_call 11; refine (handles_n S1 hb A' k _ n L _ (HT.out.frNo HC.out) HL.out.1 HL.out.2.1).mono ?_; rintro e wq ⟨sa, sc, rfl, hha, hfq⟩; have HC := Lib.hid (HC.out.trans hfq); have HHA := Lib.hid hha; clear hfq hha)
              | (go_at_call 20; refine (handles_ref_n xb g k R' _ n L _ (HZ.out.1.ref.frNo HC.out) HL.out.2.2.1 HL.out.2.2.2).mono ?_; rintro e wq ⟨ta, tc, rfl, hhb, hfq⟩; have HC := Lib.hid (HC.out.trans hfq); have HHB := Lib.hid hhb; have HHA := Lib.hid (HHA.out.fr hfq); clear hfq hhb)
              | (go_at_call 19; refine (equal_same sa ta n sc tc L _ HHA.out HHB.out hn8).mono ?_; rintro e wq ⟨rfl, hfq⟩; have HC := Lib.hid (HC.out.trans hfq); have HHA := Lib.hid (HHA.out.fr hfq); clear hfq)
              | (go_at_call 10; refine (len_n S1 hb A' k _ n _ (HT.out.frNo HC.out) HL.out.1).mono ?_; rintro e wq ⟨rfl, rfl⟩)
              | (go_at_call 9; refine (I.cap_any S1 hb A' k _ _ (HT.out.frNo HC.out)).mono ?_; rintro e wq ⟨rfl, rfl⟩))
            all_goals (
              go_roundg (90 - i)
              case measure => omega
              case rel => exact ⟨i + 1, A', R', by go_num, by omega, by omega, by push_cast; exact (HZ.out.1.frNo HC.out).less fun j hj => hj.elim, HZ.out.2.1⟩)
    · by_cases hi1 : i < len1
      · have p2 : (i : Int) < (len1 : Int) := by omega
        have p3 : ¬ ((i : Int) < 90) := by omega
        clear hin
        go_wp2_with fail
        refine (awake_any _).mono ?_
        rintro e w5 ⟨rfl, hf5⟩
        have H5 := Lib.hid hf5
        clear hf5
        go_wp2_with fail
        go_ret
        exact ⟨rfl, (HR.out.1.uno.fr.trans H5.out.no).below (fun j hj => hj) (Nat.le_refl _)⟩
      · have p2 : ¬ ((i : Int) < (len1 : Int)) := by omega
        clear hin
        go_wp2_with fail
        refine (awake_any _).mono ?_
        rintro e w5 ⟨rfl, hf5⟩
        have H5 := Lib.hid hf5
        clear hf5
        go_wp2_with fail
        go_ret
        exact ⟨rfl, (HR.out.1.uno.fr.trans H5.out.no).below (fun j hj => hj) (Nat.le_refl _)⟩

set_option maxRecDepth 100000 in
theorem lifted (os : Os) (started : os.Started) (H : Type) (enc : TypeId × Value → H) :
    ReturnsInHanded {} Try.checked os 4 .any (Rows.arenaMatchesModelSpec.pre6 enc Try.prog Try.f4 Rows.arenaMatchesModelRow.domain false) (Rows.arenaMatchesModelSpec.post enc Try.prog Try.f4 false true false false) := by
  refine returnsInHanded_of_change (C := Try.checked) own started (by kernel_rfl) Try.func4
    (ChangeSpec.witness6 (enc := enc) (C := Try.checked) false ⟨#[], #[.int .i64 0, .slice none 0 0], []⟩ 8 (by kernel_rfl) (by kernel_rfl) (by kernel_rfl) (by kernel_rfl)) ?_
  intro W base args ds gs before hval0 hW hcnd _
  have hval : ∀ (j : Nat) t v, Try.f4.params[j]? = some t → args[j]? = some v → Value.okWide Try.prog W .any base t v := hval0
  have hW' := hW
  obtain ⟨p, q, hA0, hV, rfl, hfz, hnd⟩ := hW
  have hA : DataW.TrodAll enc Try.prog W 0 (fun _ => true) true Try.f4.params.toList args.toList ds p := hA0
  rw [Try.params4] at hA hval
  obtain ⟨v0, vs0, d0, ds0, p0, q0, hargs, rfl, rfl, h0, r0⟩ := trodAll_cons hA
  obtain ⟨v1, vs1, d1, ds1, p1, q1, rfl, rfl, rfl, h1, r1⟩ := trodAll_cons r0
  obtain ⟨rfl, rfl, rfl⟩ := trodAll_nil r1
  obtain rfl : args = #[v0, v1] := by cases args; simp_all
  obtain ⟨rfl, rfl⟩ := trodVars_none hV
  obtain ⟨a0, rfl, rfl, rfl, w0⟩ := open_int Try.underlying3 (hval 0 3 v0 rfl rfl) h0
  obtain ⟨a1, len1, cap1, rfl⟩ := okWide_slice Try.underlying31 (hval 1 31 v1 rfl rfl)
  have k1 := h1
  have lt1 : ∀ x ∈ p1, x.block < W.heap.size := by obtain ⟨m, hm⟩ := k1; exact DataW.trod_lt m _ _ _ hm
  have w1 : OpRow W a1 len1 := by
    obtain ⟨fuel, hf⟩ := h1
    exact ops_open hf
  clear hA0 hval0
  refine (walk a0 a1 len1 cap1 W w0 w1).mono fun e W' ⟨he, bel⟩ => ?_
  subst he
  exact ⟨_, rfl, _, _, _, [], _, [], hW', trodAll_mk1 (shut_bool Try.underlying4 _), (trodAll_cons_mk (shut_int Try.underlying3 w0) (trodAll_cons_mk (Below.trod laidOut (by kernel_rfl) (of_decide_eq_true (by kernel_rfl)) k1 bel lt1) trodAll_mk0)), rfl, bel.frame _, fun h => by cases h⟩

theorem over : Rows.arenaMatchesModelRow.holds Try.pinned (OpenSpec.ofChange Rows.arenaMatchesModelSpec) :=
  OpenClaim.holds_of_wide 4 Try.f4 rfl rfl rfl rfl rfl rfl rfl ⟨rfl, rfl, rfl, rfl, rfl⟩ rfl rfl rfl rfl rfl (by kernel_rfl) Try.func4 (by kernel_rfl)
    (of_decide_eq_true (by kernel_rfl)) (by unfold Func.isWrapper; first | (rw [if_pos (by decide +kernel)]; kernel_rfl) | (rw [if_neg (by decide +kernel)]; exact ⟨rfl, rfl⟩))
    (fun os started H enc _ => lifted os started H enc)

end Go.Proofs.Ytgelgnakhghpkaa.arenaMatchesModel

namespace Go.Proofs.Ytgelgnakhghpkaa
/-- The statement. -/
theorem arenaMatchesModel_holds : Rows.ArenaMatchesModelSaid := arenaMatchesModel.over
#print axioms arenaMatchesModel_holds
end Go.Proofs.Ytgelgnakhghpkaa
