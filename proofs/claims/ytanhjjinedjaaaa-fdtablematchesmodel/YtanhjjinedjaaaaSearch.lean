/-
  CONTRACTS of slices.BinarySearchFunc over sorted descriptors, of search and of valid, over this seat's translation: what each call returns.
  Conditions: the row or the table lies in memory; its entries are sorted.
-/
import Derived.Test.YtanhjjinedjaaaaCmp
namespace Go.Proofs.Ytanhjjinedjaaaa
open Go.ChangeShapes Go.WideShapes Go.ChangeAt Go.RowKit
set_option linter.unusedVariables false

theorem sorted_get {L : List D} (h : Sorted L) {i j : Nat} {d e : D} (hij : i < j) (hi : L[i]? = some d) (hj : L[j]? = some e) : lt d.key e.key := by
  unfold Sorted at h
  rw [List.pairwise_iff_getElem] at h
  obtain ⟨h1, rfl⟩ := List.getElem?_eq_some_iff.1 hi
  obtain ⟨h2, rfl⟩ := List.getElem?_eq_some_iff.1 hj
  exact h i j h1 h2 hij

/-- Whether the entry at a place has the key. -/
def Hit (L : List D) (x : Int × Int) (i : Nat) (b : Bool) : Prop := b = true ↔ ∃ d, L[i]? = some d ∧ d.key = x

set_option maxHeartbeats 1000000 in
set_option maxRecDepth 100000 in
theorem bsf_any (a : Option Addr) (n cap : Nat) (L : List D) (xc xa : Int) (w : World) (h : Row 61 w (.slice a n cap) L) (hs : Sorted L) (hn : n ≤ 256) :
    Calls Try.prog 44 #[.slice a n cap, .agg #[.int .i64 xc, .int .i64 xa], .func (.func 45) #[] #[]] w fun e w' => ∃ (i : Nat) (b : Bool), e = .returned (.tuple #[.int .i64 i, .bool b]) ∧ Place L (xc, xa) i ∧ Hit L (xc, xa) i b ∧ Fr No w w' := by
  have hl := h.len
  have HS : Hid (Row 61 (w.alloc (.cells #[.int .i64 xc, .int .i64 xa] 38)) (.slice a n cap) L ∧ Sorted L ∧ n = L.length) := ⟨h.frNo (Fr.alloc No _ _), hs, hl⟩
  have HF : Hid (Fr No w (w.alloc (.cells #[.int .i64 xc, .int .i64 xa] 38))) := Fr.alloc No _ _
  have HX : Hid ((w.alloc (.cells #[.int .i64 xc, .int .i64 xa] 38)).heap[w.heap.size]? = some (.cells #[.int .i64 xc, .int .i64 xa] 38 (0, 0))) := heap_alloc_new w _
  clear h hs hl
  go_enter Try.func44, Try.ntmps44
  go_wp2_with fail
  obtain ⟨xb, hxb⟩ : ∃ xb, w.heap.size = xb := ⟨_, rfl⟩
  rw [hxb] at HX ⊢
  clear hxb
  revert HX; revert HF; revert HS
  generalize w.alloc (.cells #[.int .i64 xc, .int .i64 xa] 38) = y
  intro HS HF HX
  go_loopg [9, 10] (n + 1) (fun g s9 s10 wr => ∃ i j : Nat, s9 = .int .i64 i ∧ s10 = .int .i64 j ∧ i ≤ j ∧ j ≤ n ∧ j - i < g ∧ Hid (Fr No y wr ∧ (∀ (k : Nat) (d : D), k < i → L[k]? = some d → lt d.key (xc, xa)) ∧ ∀ (k : Nat) (d : D), j ≤ k → L[k]? = some d → ¬ lt d.key (xc, xa)))
  case atStart => exact ⟨0, n, by go_num, rfl, by omega, by omega, by omega, Fr.refl _ _, (fun k d hk => by omega), fun k d hk hd => by have := (List.getElem?_eq_some_iff.1 hd).1; have := HS.out.2.2; omega⟩
  case round =>
    obtain ⟨i, j, rfl, rfl, hij, hjn, hg, HR⟩ := hrel
    by_cases hlt : i < j
    · have p1 : (i : Int) < (j : Int) := by omega
      obtain ⟨s, hs⟩ : ∃ s, s = i + j := ⟨_, rfl⟩
      have e1 : (i : Int) + (j : Int) = (s : Int) := by omega
      have hs2 : s ≤ 512 := by omega
      have HSS := Lib.hid hs
      clear hs
      obtain ⟨m, hm⟩ : ∃ m : Nat, (s : Int) / 2 = (m : Int) := ⟨((s : Int) / 2).toNat, by omega⟩
      have him : i ≤ m ∧ m < j := by have := HSS.out; omega
      go_wp2_with fail
      clear hm e1 hs2 HSS p1
      obtain ⟨d, hd⟩ : ∃ d, L[m]? = some d := ⟨_, List.getElem?_eq_getElem (by have := HS.out.2.2; omega)⟩
      have hrow := HS.out.1.frNo HR.out.1
      obtain ⟨gb, rfl, _⟩ := hrow.form (by have := HS.out.2.2; omega)
      refine region_tail 6 (by kernel_rfl) (by kernel_rfl) ?_
      intro z hz
      have hrz : Row 61 z (.slice (some ⟨gb, 0, none⟩) n cap) L := by subst hz; exact hrow.frNo (Fr.drew No _)
      obtain ⟨c0, c1, c2, c3⟩ := hrz.cells hd
      have HZ : Hid (Fr No y z) := by subst hz; exact HR.out.1.trans (Fr.drew No _)
      have hxz := (HZ.out.block xb (Array.getElem?_eq_some_iff.1 HX.out).1 (fun h => h)).trans HX.out
      have x0 : z.cell? ⟨xb, 0, none⟩ = some (.int .i64 xc) := by rw [cell_of_row _ xb _ _ _ _ hxz]; rfl
      have x1 : z.cell? ⟨xb, 1, none⟩ = some (.int .i64 xa) := by rw [cell_of_row _ xb _ _ _ _ hxz]; rfl
      have q1 : (0 : Int) ≤ (m : Int) := by omega
      have q2 : (m : Int) < (n : Int) := by omega
      have HD := Lib.hid hd
      have HM := Lib.hid him
      have hm256 : m ≤ 256 := by omega
      clear hz hrz hrow hd hxz him
      obtain ⟨dc, da, dn, ds⟩ := d
      simp only at c0 c1 c2 c3
      simp only [List.take_succ_cons, List.take_zero, List.drop_succ_cons, List.drop_zero]
      iterate 6 still_step
      refine wpStill_nil ?_
      clear c0 c1 c2 c3 x0 x1 q1 q2
      have hneg := lexI_neg (dc, da) (xc, xa)
      have HN := Lib.hid hneg
      clear hneg
      obtain ⟨r, hr⟩ : ∃ r, lexI (dc, da) (xc, xa) = r := ⟨_, rfl⟩
      rw [hr] at HN
      have HC : Hid (∀ w1, Calls Try.prog 45 #[.agg #[.int .i64 dc, .int .i64 da, .int .i64 (dn : Int), .int .i64 ds], .agg #[.int .i64 xc, .int .i64 xa]] w1 fun e w' => e = .returned (.int .i64 r) ∧ Fr No w1 w') := by
        intro w1
        rw [← hr]
        exact compare_any dc da dn ds xc xa w1
      clear hr
      by_cases hr0 : r < 0
      · go_wp2_with (go_at_call 45; refine (HC.out _).mono ?_; rintro e w5 ⟨rfl, hf5⟩; have H5 := Lib.hid hf5; clear hf5)
        go_roundg (j - i)
        case measure => exact hg
        case rel =>
          have hl := HN.out.1 hr0
          refine ⟨m + 1, j, by go_num, rfl, by have := HM.out; omega, hjn, by have := HM.out; omega, HZ.out.trans H5.out, fun k e hk he => ?_, HR.out.2.2⟩
          by_cases hkm : k = m
          · subst hkm
            rw [HD.out] at he; cases he
            exact hl
          · exact lt_trans (sorted_get HS.out.2.1 (by omega) he HD.out) hl
      · go_wp2_with (go_at_call 45; refine (HC.out _).mono ?_; rintro e w5 ⟨rfl, hf5⟩; have H5 := Lib.hid hf5; clear hf5)
        go_roundg (j - i)
        case measure => exact hg
        case rel =>
          have hl : ¬ lt (dc, da) (xc, xa) := fun h => by have := HN.out.2 h; omega
          refine ⟨i, m, rfl, rfl, by have := HM.out; omega, by have := HM.out; omega, by have := HM.out; omega, HZ.out.trans H5.out, HR.out.2.1, fun k e hk he => ?_⟩
          by_cases hkm : k = m
          · subst hkm
            rw [HD.out] at he; cases he
            exact hl
          · exact fun h => hl (lt_trans (sorted_get HS.out.2.1 (by omega) HD.out he) h)
    · obtain rfl : i = j := by omega
      have p1 : ¬ ((i : Int) < (i : Int)) := by omega
      have HP : Hid (Place L (xc, xa) i) := ⟨by have := HS.out.2.2; omega, HR.out.2.1, HR.out.2.2⟩
      by_cases hin : i < n
      · have p2 : (i : Int) < (n : Int) := by omega
        have p3 : decide ((i : Int) < (n : Int)) = true := decide_eq_true p2
        go_wp2_with fail
        obtain ⟨d, hd⟩ : ∃ d, L[i]? = some d := ⟨_, List.getElem?_eq_getElem (by have := HS.out.2.2; omega)⟩
        have hrow := HS.out.1.frNo HR.out.1
        obtain ⟨gb, rfl, _⟩ := hrow.form (by have := HS.out.2.2; omega)
        obtain ⟨dc, da, dn, ds⟩ := d
        obtain ⟨c0, c1, c2, c3⟩ := hrow.cells hd
        simp only at c0 c1 c2 c3
        have hxz := (HR.out.1.block xb (Array.getElem?_eq_some_iff.1 HX.out).1 (fun h => h)).trans HX.out
        have x0 : wr.cell? ⟨xb, 0, none⟩ = some (.int .i64 xc) := by rw [cell_of_row _ xb _ _ _ _ hxz]; rfl
        have x1 : wr.cell? ⟨xb, 1, none⟩ = some (.int .i64 xa) := by rw [cell_of_row _ xb _ _ _ _ hxz]; rfl
        have q1 : (0 : Int) ≤ (i : Int) := by omega
        have hz := lexI_zero (dc, da) (xc, xa)
        have HN := Lib.hid (And.intro hz hd)
        obtain ⟨r, hr⟩ : ∃ r, lexI (dc, da) (xc, xa) = r := ⟨_, rfl⟩
        rw [hr] at HN
        have HC : Hid (∀ w1, Calls Try.prog 45 #[.agg #[.int .i64 dc, .int .i64 da, .int .i64 (dn : Int), .int .i64 ds], .agg #[.int .i64 xc, .int .i64 xa]] w1 fun e w' => e = .returned (.int .i64 r) ∧ Fr No w1 w') := by
          intro w1
          rw [← hr]
          exact compare_any dc da dn ds xc xa w1
        have HK : Hid (∀ w5, Fr No wr w5 → w5.cell? ⟨gb, i * 4, none⟩ = some (.int .i64 dc) ∧ w5.cell? ⟨gb, i * 4 + 1, none⟩ = some (.int .i64 da) ∧ w5.cell? ⟨gb, i * 4 + 2, none⟩ = some (.int .i64 (dn : Int)) ∧ w5.cell? ⟨gb, i * 4 + 3, none⟩ = some (.int .i64 ds) ∧ w5.cell? ⟨xb, 0, none⟩ = some (.int .i64 xc) ∧ w5.cell? ⟨xb, 1, none⟩ = some (.int .i64 xa)) := by
          intro w5 hf
          obtain ⟨k0, k1, k2, k3⟩ := (hrow.frNo hf).cells hd
          have hxz5 := (hf.block xb (Array.getElem?_eq_some_iff.1 hxz).1 (fun h => h)).trans hxz
          exact ⟨k0, k1, k2, k3, by rw [cell_of_row _ xb _ _ _ _ hxz5]; rfl, by rw [cell_of_row _ xb _ _ _ _ hxz5]; rfl⟩
        clear hr hz hd hrow hxz
        go_region_held3 (fun w' => w'.cell? ⟨gb, i * 4, none⟩ = some (.int .i64 dc) ∧ w'.cell? ⟨gb, i * 4 + 1, none⟩ = some (.int .i64 da) ∧ w'.cell? ⟨gb, i * 4 + 2, none⟩ = some (.int .i64 (dn : Int)) ∧ w'.cell? ⟨gb, i * 4 + 3, none⟩ = some (.int .i64 ds) ∧ w'.cell? ⟨xb, 0, none⟩ = some (.int .i64 xc) ∧ w'.cell? ⟨xb, 1, none⟩ = some (.int .i64 xa)) (go_keep) (first | (go_at_call 45; refine (HC.out _).mono ?_; rintro e w5 ⟨rfl, hf5⟩; have hf6 := (Fr.drew No wr).trans hf5; obtain ⟨k0, k1, k2, k3, k4, k5⟩ := HK.out _ hf6; have H5 := Lib.hid hf6; clear hf5 hf6))
        go_wp2_with fail
        go_ret2
        refine ⟨i, decide (r = 0), rfl, HP.out, ?_, (HF.out.trans HR.out.1).trans H5.out⟩
        unfold Hit
        rw [decide_eq_true_iff, HN.out.1]
        constructor
        · intro h
          exact ⟨_, HN.out.2, h⟩
        · rintro ⟨e, he, hk⟩
          rw [HN.out.2] at he; cases he
          exact hk
      · have p2 : ¬ ((i : Int) < (n : Int)) := by omega
        have p3 : decide ((i : Int) < (n : Int)) = false := decide_eq_false p2
        go_wp2_with fail
        go_quiet (fail)
        go_wp2_with fail
        go_ret2
        refine ⟨i, false, rfl, HP.out, ?_, (HF.out.trans HR.out.1).trans (Fr.drewN _ _ _)⟩
        unfold Hit
        constructor
        · intro h; cases h
        · rintro ⟨d, hd, _⟩
          have := (List.getElem?_eq_some_iff.1 hd).1
          have := HS.out.2.2
          omega

set_option maxHeartbeats 1000000 in
set_option maxRecDepth 100000 in
theorem search_any (hb : Nat) (sv : Value) (L : List D) (size op : Nat) (xc xa : Int) (w : World) (h : Raw w hb sv L size op) (hs : Sorted L) (hn : L.length ≤ 256) :
    Calls Try.prog 38 #[.pointer (some ⟨hb, 0, none⟩), .agg #[.int .i64 xc, .int .i64 xa]] w fun e w' => ∃ (i : Nat) (b : Bool), e = .returned (.tuple #[.int .i64 i, .bool b]) ∧ Place L (xc, xa) i ∧ Hit L (xc, xa) i b ∧ Fr No w w' := by
  obtain ⟨a, cap, rfl, -, -⟩ := h.row.any
  have hr := h.frNo (Fr.alloc No w (.cells #[.int .i64 xc, .int .i64 xa] 38))
  obtain ⟨n, hn'⟩ : ∃ n, L.length = n := ⟨_, rfl⟩
  rw [hn'] at hr hn
  have HS := Lib.hid (And.intro hr (And.intro hs hn'))
  have HF : Hid (Fr No w (w.alloc (.cells #[.int .i64 xc, .int .i64 xa] 38))) := Fr.alloc No _ _
  have HX : Hid ((w.alloc (.cells #[.int .i64 xc, .int .i64 xa] 38)).heap[w.heap.size]? = some (.cells #[.int .i64 xc, .int .i64 xa] 38 (0, 0))) := heap_alloc_new w _
  clear h hr hs hn'
  go_enter Try.func38, Try.ntmps38
  go_wp2_with fail
  obtain ⟨xb, hxb⟩ : ∃ xb, w.heap.size = xb := ⟨_, rfl⟩
  rw [hxb] at HX ⊢
  clear hxb
  revert HX; revert HF; revert HS
  generalize w.alloc (.cells #[.int .i64 xc, .int .i64 xa] 38) = y
  intro HS HF HX
  have hr := HS.out.1
  obtain ⟨c0, -, -⟩ := hr.hcell
  have x0 : y.cell? ⟨xb, 0, none⟩ = some (.int .i64 xc) := by rw [cell_of_row _ xb _ _ _ _ HX.out]; rfl
  have x1 : y.cell? ⟨xb, 1, none⟩ = some (.int .i64 xa) := by rw [cell_of_row _ xb _ _ _ _ HX.out]; rfl
  have HK : Hid (∀ w5, Fr No y w5 → w5.cell? ⟨hb, 0, none⟩ = some (.slice a n cap) ∧ w5.cell? ⟨xb, 0, none⟩ = some (.int .i64 xc) ∧ w5.cell? ⟨xb, 1, none⟩ = some (.int .i64 xa)) := by
    intro w5 hf
    have hxz := (hf.block xb (Array.getElem?_eq_some_iff.1 HX.out).1 (fun h => h)).trans HX.out
    exact ⟨(hr.frNo hf).hcell.1, by rw [cell_of_row _ xb _ _ _ _ hxz]; rfl, by rw [cell_of_row _ xb _ _ _ _ hxz]; rfl⟩
  clear hr
  go_region_held3 (fun w' => w'.cell? ⟨hb, 0, none⟩ = some (.slice a n cap) ∧ w'.cell? ⟨xb, 0, none⟩ = some (.int .i64 xc) ∧ w'.cell? ⟨xb, 1, none⟩ = some (.int .i64 xa)) (go_keep) (first | (go_at_call 44; refine (bsf_any a n cap L xc xa _ (HS.out.1.row.frNo (Fr.drew No _)) HS.out.2.1 hn).mono ?_; rintro e w5 ⟨i, b, rfl, hp, hh, hf5⟩; have hf6 := (Fr.drew No y).trans hf5; obtain ⟨k0, k1, k2⟩ := HK.out _ hf6; have H5 := Lib.hid (And.intro hp (And.intro hh hf6)); clear hp hh hf5 hf6))
  go_wp2_with fail
  go_ret2
  exact ⟨i, b, rfl, H5.out.1, H5.out.2.1, HF.out.trans H5.out.2.2⟩

end Go.Proofs.Ytanhjjinedjaaaa
