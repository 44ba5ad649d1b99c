/-
  CONTRACT of Handles of the heap of tags, over this seat's translation.
  Conditions: the heap lies in memory as HeapAt says.
-/
import Derived.Test.YtbgddldkpjeieaaGreatG1
import Derived.Test.YtbgddldkpjeieaaGreatSortK
namespace Go.Proofs.YtbgddldkpjeieaaGreat.G
open Go.ChangeShapes Go.WideShapes Go.ChangeAt Go.RowKit Go.Maps
set_option linter.unusedVariables false

set_option maxHeartbeats 4000000 in
set_option maxRecDepth 100000 in
theorem handles_any (hb mb : Nat) (sv : Value) (A : List Ent) (last : Int) (w : World) (h : HA w hb mb sv A last) :
    Calls Tryz.prog 49 #[.pointer (some ⟨hb, 0, none⟩)] w fun e w' => ∃ (rb : Nat) (S : List Ent), e = .returned (.slice (some ⟨rb, 0, none⟩) A.length A.length) ∧ w.heap.size ≤ rb ∧ S.Perm A ∧ S.Pairwise (fun a b => ¬ b.lt a) ∧ IdRow w' rb A.length S ∧ Fr No w w' := by
  have hlen := h.good.len
  obtain ⟨n, hn⟩ : ∃ n, A.length = n := ⟨_, rfl⟩
  have c0 : w.cell? ⟨hb, 0, none⟩ = some sv := by obtain ⟨⟨D, hr, _⟩, _⟩ := h; exact hr.hcell.1
  obtain ⟨a, cap, rfl⟩ : ∃ a cap, sv = .slice a n cap := by
    obtain ⟨⟨D, hr, _⟩, _⟩ := h
    rcases hr.row.2 with ⟨hv, hn'⟩ | ⟨g, cap, cur, hv, _⟩
    · exact ⟨none, 0, by rw [hv, ← hn, hn']⟩
    · exact ⟨_, cap, by rw [hv, hn]⟩
  rw [hn] at hlen ⊢
  have hlt := h.own_lt (Or.inl rfl)
  have HS := Lib.hid (And.intro h hn)
  obtain ⟨i1, hi1, hz1, hs1, hb1⟩ := info_parts (show (Tryz.prog.info? 80).map (fun i => (i.zero, i.size, i.bytes)) = some (some (.agg #[.int .u64 0, .int .i64 0]), 2, 16) by kernel_rfl)
  obtain ⟨i2, hi2, hz2, hs2, hb2⟩ := info_parts (show (Tryz.prog.info? 3).map (fun i => (i.zero, i.size, i.bytes)) = some (some (.int .i64 0), 1, 8) by kernel_rfl)
  have hmk : ∀ w : World, (Instr.makeSlice 103 (.int .i64 (n : Int)) (.int .i64 (n : Int))).run Tryz.prog w = .ok (.slice (some ⟨w.heap.size, 0, none⟩) n n) (w.alloc (.cells (madeCells #[.int .u64 0, .int .i64 0] (n * 2)) 80)) := by
    intro w
    have := run_make (P := Tryz.prog) w 103 80 i1 _ Tryz.underlying103 hi1 hz1 .i64 .i64 n n (by omega) (Int.le_refl _) (by rw [hb1]; omega) (by omega)
    simpa [hs1, Value.cells] using this
  have hmk2 : ∀ w : World, (Instr.makeSlice 64 (.int .i64 (n : Int)) (.int .i64 (n : Int))).run Tryz.prog w = .ok (.slice (some ⟨w.heap.size, 0, none⟩) n n) (w.alloc (.cells (madeCells #[.int .i64 0] n) 3)) := by
    intro w
    have := run_make (P := Tryz.prog) w 64 3 i2 _ Tryz.underlying64 hi2 hz2 .i64 .i64 n n (by omega) (Int.le_refl _) (by rw [hb2]; omega) (by omega)
    simpa [hs2, Value.cells] using this
  clear h hn hi1 hz1 hs1 hb1 hi2 hz2 hs2 hb2
  go_enter Tryz.func49, Tryz.ntmps49
  go_wp2_with fail
  have HF0 : Hid (Fr No w (w.alloc (.cells (madeCells #[.int .u64 0, .int .i64 0] (n * 2)) 80))) := Fr.alloc _ _ _
  have HK0 : Hid (KeyRow (w.alloc (.cells (madeCells #[.int .u64 0, .int .i64 0] (n * 2)) 80)) w.heap.size n []) := KeyRow.made _ _ _
  obtain ⟨kb, hkb⟩ : ∃ kb, w.heap.size = kb := ⟨_, rfl⟩
  have HKB := Lib.hid hkb
  rw [hkb] at HK0 ⊢
  clear hkb c0
  revert HF0 HK0
  generalize w.alloc (.cells (madeCells #[.int .u64 0, .int .i64 0] (n * 2)) 80) = w0
  intro HF0 HK0
  go_loopg [20] (n + 1) (fun g s wr => ∃ (i : Nat), s = .int .i64 i ∧ i ≤ n ∧ n - i < g ∧ Hid (Fr No w wr ∧ KeyRow wr kb n (A.take i)))
  case atStart => exact ⟨0, by go_num, by omega, by omega, HF0.out, HK0.out⟩
  case round =>
    obtain ⟨i, rfl, hin, hig, HR⟩ := hrel
    clear HF0 HK0
    by_cases hi : i < n
    · obtain ⟨ei, gi⟩ : ∃ e, A[i]? = some e := ⟨_, List.getElem?_eq_getElem (by have := HS.out.2; omega)⟩
      have HA1 := HS.out.1.frNo HR.out.1
      obtain ⟨⟨D, hr, ht⟩, hg⟩ := HA1
      obtain ⟨g, cap', hv⟩ := hr.form (by have := HS.out.2; omega)
      obtain rfl : a = some ⟨g, 0, none⟩ := by cases hv; rfl
      obtain ⟨a0, a1, a2⟩ := hr.ecell gi
      obtain ⟨x, vi⟩ := hg.val i ei gi
      rw [vi] at a2
      obtain ⟨⟨v0, r0⟩, ⟨v1, r1⟩, z0, z1⟩ := HR.out.2.there i hi
      have hkw : kb < wr.heap.size := HR.out.2.lt
      have HG := Lib.hid (And.intro gi vi)
      have p1 : (0 : Int) ≤ (i : Int) := by omega
      have p2 : (i : Int) < (n : Int) := by omega
      have n01 : i * 2 ≠ i * 2 + 1 := by omega
      clear hr ht hg hv gi vi
      go_wp2_with fail
      go_roundg (n - i)
      case measure => exact hig
      case rel =>
        refine ⟨i + 1, by go_num, by omega, by omega, ?_, ?_⟩
        · exact ((HR.out.1.setNew (a := ⟨kb, i * 2, none⟩) (by rw [HKB.out]; exact Nat.le_refl _) _).setNew (a := ⟨kb, i * 2 + 1, none⟩) (by rw [HKB.out]; exact Nat.le_refl _) _).trans (Fr.alloc _ _ _)
        · exact (HR.out.2.step HG.out.1 hi).keep (Below.heap_alloc _ _ _ (by simpa [World.setCell] using hkw))
    · obtain rfl : i = n := by omega
      have p2 : ¬ ((i : Int) < (i : Int)) := by omega
      have hA : A.take i = A := List.take_of_length_le (by rw [HS.out.2]; exact Nat.le_refl _)
      have HKR : Hid (KeyRow wr kb i A) := by have := HR.out.2; rw [hA] at this; exact this
      have HFR := Lib.hid HR.out.1
      clear HR hA
      go_wp2_with fail
      refine (sortK_any kb A i _ HS.out.2 (HKR.out.holds HS.out.2) HKR.out.lt hlen).mono ?_
      rintro e w1 ⟨rfl, S, hp, hs, hh, hf⟩
      have HF1 : Hid (Fr No w w1) := HFR.out.ofNew hf (fun k hk => Or.inr (by have := HKB.out; omega))
      have hk1 : kb < w1.heap.size := Nat.lt_of_lt_of_le HKR.out.lt hf.size
      have HSo := Lib.hid (And.intro hp (And.intro hs (And.intro hh hk1)))
      clear hp hs hh hf hk1 HFR HKR
      go_wp2_with fail
      have HF2 : Hid (Fr No w (w1.alloc (.cells (madeCells #[.int .i64 0] i) 3))) := HF1.out.trans (Fr.alloc _ _ _)
      have HI0 : Hid (IdRow (w1.alloc (.cells (madeCells #[.int .i64 0] i) 3)) w1.heap.size i []) := IdRow.made _ _ _
      have HH0 : Hid ((w1.alloc (.cells (madeCells #[.int .i64 0] i) 3)).heap[kb]? = w1.heap[kb]?) := Below.heap_alloc _ _ _ HSo.out.2.2.2
      obtain ⟨rb, hrb⟩ : ∃ rb, w1.heap.size = rb := ⟨_, rfl⟩
      have HRB : Hid (w.heap.size ≤ rb ∧ kb < rb) := by have h1 := HF1.out.size; have h2 := HSo.out.2.2.2; rw [hrb] at h1 h2; exact ⟨h1, h2⟩
      rw [hrb] at HI0 ⊢
      clear hrb HF1
      revert HF2 HI0 HH0
      generalize w1.alloc (.cells (madeCells #[.int .i64 0] i) 3) = w2
      intro HF2 HH0 HI0
      go_loopg [38] (i + 1) (fun g s wr => ∃ (j : Nat), s = .int .i64 j ∧ j ≤ i ∧ i - j < g ∧ Hid (Fr No w wr ∧ IdRow wr rb i (S.take j) ∧ wr.heap[kb]? = w1.heap[kb]?))
      case atStart => exact ⟨0, by go_num, by omega, by omega, HF2.out, HI0.out, HH0.out⟩
      case round =>
        obtain ⟨j, rfl, hji, hjg, HR⟩ := hrel
        clear HF2 HI0 HH0
        have hSl : Hid (S.length = i) := HSo.out.1.length_eq.trans HS.out.2
        by_cases hj : j < i
        · obtain ⟨ej, gj⟩ : ∃ e, S[j]? = some e := ⟨_, List.getElem?_eq_getElem (by have := hSl.out; omega)⟩
          obtain ⟨k0, k1⟩ := holds_cell HSo.out.2.2.1 gj
          have k0' : wr.cell? ⟨kb, j * 2, none⟩ = some (.int .u64 ej.due) := (World.cell?_of_block (a := ⟨kb, j * 2, none⟩) HR.out.2.2).trans k0
          have k1' : wr.cell? ⟨kb, j * 2 + 1, none⟩ = some (.int .i64 ej.id) := (World.cell?_of_block (a := ⟨kb, j * 2 + 1, none⟩) HR.out.2.2).trans k1
          obtain ⟨⟨v0, r0⟩, z0⟩ := HR.out.2.1.there j hj
          have hrw : rb < wr.heap.size := HR.out.2.1.lt
          have HG := Lib.hid gj
          have p1 : (0 : Int) ≤ (j : Int) := by omega
          have p3 : (j : Int) < (i : Int) := by omega
          clear gj k0 k1
          go_wp2_with fail
          go_roundg (i - j)
          case measure => exact hjg
          case rel =>
            refine ⟨j + 1, by go_num, by omega, by omega, ?_, ?_, ?_⟩
            · exact (HR.out.1.setNew (a := ⟨rb, j, none⟩) HRB.out.1 _).trans (Fr.alloc _ _ _)
            · exact (HR.out.2.1.step HG.out hj).keep (Below.heap_alloc _ _ _ (by simpa [World.setCell] using hrw))
            · rw [Below.heap_alloc _ _ _ (by have := HRB.out.2; simp [World.setCell]; omega), Below.heap_setCell _ _ _ _ (by have := HRB.out.2; simp; omega)]
              exact HR.out.2.2
        · obtain rfl : j = i := by omega
          have p3 : ¬ ((j : Int) < (j : Int)) := by omega
          go_wp2_with fail
          go_ret
          have hS : S.take j = S := List.take_of_length_le (by rw [hSl.out]; exact Nat.le_refl _)
          have h2 := HR.out.2.1
          rw [hS] at h2
          exact ⟨rb, rfl, HRB.out.1, S, HSo.out.1, HSo.out.2.1, h2, HR.out.1⟩

end Go.Proofs.YtbgddldkpjeieaaGreat.G
