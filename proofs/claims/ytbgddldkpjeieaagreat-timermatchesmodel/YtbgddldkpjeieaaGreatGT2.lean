/-
  CONTRACTS of Deadline of the timers at one value type, over this seat's translation: what the call returns, what it leaves in memory.
  Conditions: the timers lie in memory as Tim says.
-/
import Derived.Test.YtbgddldkpjeieaaGreatGT1
import Derived.Test.YtbgddldkpjeieaaGreatTick
import Derived.Deep.RegionHeld3
namespace Go.Proofs.YtbgddldkpjeieaaGreat.G
open Go.ChangeShapes Go.WideShapes Go.ChangeAt Go.RowKit Go.Maps
set_option linter.unusedVariables false

theorem deadline_miss (S : Nat → Prop) (tb : Nat) (L : List Rec) (last k : Int) (w : World) (h : TI S w tb L last) (hk : (Lit.int .i64 k).wf = true) (hno : ∀ r ∈ L, r.id ≠ k) :
    Calls Tryz.prog 35 #[.pointer (some ⟨tb, 0, none⟩), .int .i64 k] w fun e w' => e = .returned (.tuple #[.int .u64 0, .bool false]) ∧ w' = w := by
  obtain ⟨hb, mb, sv, A, blk, cm, hX, hM⟩ := h
  have c0 := hX.hcell
  have HX := Lib.hid (And.intro hX hno)
  clear hX hM hno
  go_enter Tryz.func35, Tryz.ntmps35
  go_wp2_with fail
  refine (get_miss hb mb sv A last k _ HX.out.1.heap hk (HX.out.1.miss HX.out.2)).mono ?_
  rintro e w1 ⟨rfl, rfl⟩
  go_wp2_with fail
  refine bodyPost_ret_by (by simp [results]; rfl) rfl ?_
  exact ⟨rfl, rfl⟩

set_option maxHeartbeats 1000000 in
set_option maxRecDepth 100000 in
theorem deadline_hit (S : Nat → Prop) (tb : Nat) (L : List Rec) (last : Int) (q : Rec) (w : World) (h : TI S w tb L last) (hq : q ∈ L) :
    Calls Tryz.prog 35 #[.pointer (some ⟨tb, 0, none⟩), .int .i64 q.id] w fun e w' => ∃ d, e = .returned (.tuple #[.int .u64 d, .bool true]) ∧ Dl L q.id d ∧ Fr No w w' := by
  obtain ⟨hb, mb, sv, A, blk, cm, hX, hM⟩ := h
  have c0 := hX.hcell
  have hdue := hX.wood.due q hq
  obtain ⟨i, hi⟩ := hX.get hq
  have HX := Lib.hid (And.intro hX (And.intro hi hq))
  clear hX hM hi hq
  go_enter Tryz.func35, Tryz.ntmps35
  go_wp2_with fail
  refine (get_hit hb mb sv A last i _ _ HX.out.1.heap HX.out.2.1).mono ?_
  rintro e w1 ⟨rfl, hf1⟩
  have HF := Lib.hid hf1
  clear hf1 c0
  simp only [entOf]
  go_wp2_with fail
  go_loopg [6, 7] (q.id.toNat + 1) (fun g sd sn wr => ∃ (m : Rec) (acc : Int), sd = .int .u64 acc ∧ sn = .pointer (some ⟨blk m.id, 0, none⟩) ∧ m.id.toNat < g ∧ (0 ≤ acc ∧ acc ≤ 18446744073709551615) ∧ Hid (m ∈ L ∧ Fr No w wr ∧ acc ≤ m.due ∧ ∀ d, Dl L m.id d → Dl L q.id (min acc d)))
  case atStart =>
    refine ⟨q, q.due, rfl, rfl, by omega, hdue, HX.out.2.2, HF.out, Int.le_refl _, fun d hd => ?_⟩
    have := Dl.le HX.out.1.wood HX.out.2.2 hd
    rw [show min q.due d = d by omega]
    exact hd
  case round =>
    obtain ⟨m, acc, rfl, rfl, hg, hacc, HR⟩ := hrel
    clear HF
    have hXr := HX.out.1.frNo HR.out.2.1
    have c0 := hXr.hcell
    have n0 := (hXr.ncell HR.out.1).1
    have HXr := Lib.hid hXr
    clear hXr
    by_cases hp : m.par = 0
    · rw [hp] at n0
      go_wp2_with fail
      refine bodyPost_ret_by (by simp [results]; rfl) rfl ?_
      obtain ⟨hm, hF, hle, hD⟩ := HR.out
      have := hD m.due (.root m hm hp)
      rw [show min acc m.due = acc by omega] at this
      exact ⟨acc, rfl, this, hF⟩
    · obtain ⟨p, hpm, hpe⟩ : ∃ p ∈ L, p.id = m.par := by
        rcases HX.out.1.wood.par m HR.out.1 with h0 | ⟨_, h1⟩
        · exact absurd h0 hp
        · exact h1
      obtain ⟨j, hj⟩ := HX.out.1.get hpm
      have hpd := HX.out.1.wood.due p hpm
      have hlt : p.id < m.id := by rw [hpe]; exact (HX.out.1.wood.par_lt HR.out.1).2
      have hp1 : 1 ≤ p.id := (HX.out.1.wood.id p hpm).1
      rw [← hpe] at n0
      have hp0 : p.id ≠ 0 := by omega
      have HP := Lib.hid (And.intro hpm (And.intro hpe hj))
      clear hpm hpe hj
      go_wp2_with fail
      go_region_held3 (fun w' => w'.cell? ⟨tb, 0, none⟩ = some (.pointer (some ⟨hb, 0, none⟩)) ∧ w'.cell? ⟨blk m.id, 0, none⟩ = some (.int .i64 p.id)) (go_keep) (first | (go_at_call 20; refine (get_hit hb mb sv A last j _ _ (HXr.out.heap.frNo (Fr.drew No _)) HP.out.2.2).mono ?_; rintro e w5 ⟨rfl, hf5⟩; have hX5 := (HXr.out.frNo (Fr.drew No _)).frNo hf5; have c5 := hX5.hcell; have n5 : w5.cell? ⟨blk m.id, 0, none⟩ = some (.int .i64 p.id) := (by rw [HP.out.2.1]; exact (hX5.ncell HR.out.1).1); have H5 := Lib.hid ((HR.out.2.1.trans (Fr.drew No _)).trans hf5); clear hX5 hf5; simp only [entOf]))
      all_goals (
        go_wp2_with (go_at_call 50; refine (min2_any _ acc p.due _ (by simp) (by simp) hacc.2 hpd.2).mono ?_; rintro e w6 ⟨rfl, rfl⟩)
        go_roundg (m.id.toNat)
        case measure => exact hg
        case rel =>
          obtain ⟨hm, hF, hle, hD⟩ := HR.out
          refine ⟨p, min acc p.due, rfl, rfl, by omega, by omega, HP.out.1, H5.out.trans (Fr.alloc No _ _), by omega, fun d hd => ?_⟩
          have h1 := Dl.le HX.out.1.wood HP.out.1 hd
          rw [HP.out.2.1] at hd
          have h2 := hD _ (.step m hm hp d hd)
          rw [show min acc (min m.due d) = min (min acc p.due) d by omega] at h2
          exact h2)

end Go.Proofs.YtbgddldkpjeieaaGreat.G
