/-
  The law HeapMatchesModel returns true for every list of operations, and changes nothing that was in memory before.
  Conditions: none beyond the row's own.
-/
import Derived.Test.YtbobokhlcbojkaaRef6
import Derived.WalkKit
import Derived.ProofKit
import Derived.OpenShut
import Derived.ShutString
import Derived.ChangeOld
import Derived.Below
import Derived.Deep.DeepCutAuto
import Derived.Deep.CutBlock
import Derived.Deep.RegionHeld3
namespace Go.Proofs.Ytbobokhlcbojkaa.heapMatchesModel
open Go.ChangeShapes Go.WideShapes Go.ChangeAt Go.RowKit
open Go.ChangeMaps (open_string shut_string)
set_option linter.unusedVariables false

theorem own : ownKnob Try.prog.godebug = none := by kernel_rfl
theorem laidOut : laidOutB Try.prog = true := by kernel_rfl

set_option maxHeartbeats 16000000 in
set_option maxRecDepth 1000000 in
theorem walk (a0 : Option Addr) (len0 cap0 : Nat) (w : World) (w0 : OpRow w a0 len0) :
    Calls Try.prog 3 #[.slice a0 len0 cap0] w fun e w' => e = .returned (.bool true) ∧ Below w.heap.size w w' := by
  have HI := Lib.hid w0
  have hlen := HI.out.1
  clear w0
  go_enter Try.func3, Try.ntmps3
  go_wp2_with fail
  refine (I.new_any _).mono ?_
  rintro e w1 ⟨hb, mb, rfl, h1, h2, h3, h4⟩
  have HD0 := Lib.hid (duo_born (Live.born h1 (Fr.refl No w) h2 h3 h4))
  clear h1 h2 h3 h4
  go_wp2_with fail
  obtain ⟨xb, hxb⟩ : ∃ xb, w1.heap.size = xb := ⟨_, rfl⟩
  rw [hxb] at HD0 ⊢
  clear hxb
  revert HD0
  generalize w1.alloc (.cells #[.slice none 0 0, .int .i64 0] 28) = w2
  intro HD0
  go_loopg [5] 81 (fun g s wr => ∃ (i : Nat) (sv iv : Value) (A L : List Ent) (last : Int), s = .int .i64 i ∧ i ≤ 80 ∧ 80 - i < g ∧ (0 ≤ last ∧ last ≤ i) ∧ Hid (Duo w wr hb mb xb sv iv A L last ∧ L.length ≤ i))
  case atStart => exact ⟨0, _, _, [], [], 0, by go_num, by omega, by omega, by omega, HD0.out, by simp⟩
  case round =>
    obtain ⟨i, sv, iv, A, L, last, rfl, hi60, hig, hlast, HR⟩ := hrel
    clear HD0
    by_cases hin : i < len0 ∧ i < 80
    · obtain ⟨hin1, hin2⟩ := hin
      obtain ⟨kd, id, du, xx, hop, bk, bi, bd, bx⟩ := HI.out.2 i hin1
      obtain ⟨b, off, rfl, c0, c1, c2, c3⟩ := hop.fr HR.out.1.live.fr
      have p1 : (0 : Int) ≤ (i : Int) := by omega
      have p2 : (i : Int) < (len0 : Int) := by omega
      have p3 : (i : Int) < 80 := by omega
      clear hop
      go_wp2_with fail
      have HD : Hid (Duo w (wr.alloc (.cells #[.int .i64 kd, .int .i64 id, .int .u64 du, .int .i64 xx] 31)) hb mb xb sv iv A L last ∧ L.length ≤ i) := ⟨HR.out.1.keep (Fr.alloc No _ _), HR.out.2⟩
      have HO : Hid ((wr.alloc (.cells #[.int .i64 kd, .int .i64 id, .int .u64 du, .int .i64 xx] 31)).heap[wr.heap.size]? = some (.cells #[.int .i64 kd, .int .i64 id, .int .u64 du, .int .i64 xx] 31 (0, 0))) := heap_alloc_new wr _
      have HB : Hid (∀ k, Own hb mb sv k ∨ OwnR xb iv k → k ≠ wr.heap.size) := fun k hk e => by
        rcases hk with hk | hk
        · have := HR.out.1.live.heap.own_lt hk; omega
        · have := HR.out.1.ref.own_lt hk; omega
      clear c0 c1 c2 c3
      obtain ⟨ob, hob⟩ : ∃ ob, wr.heap.size = ob := ⟨_, rfl⟩
      rw [hob] at HO HB ⊢
      clear hob
      revert HD HO
      generalize wr.alloc (.cells #[.int .i64 kd, .int .i64 id, .int .u64 du, .int .i64 xx] 31) = wb
      intro HD HO
      have o0 : wb.cell? ⟨ob, 0, none⟩ = some (.int .i64 kd) := by rw [cell_of_row wb ob _ _ _ _ HO.out]; rfl
      have o1 : wb.cell? ⟨ob, 1, none⟩ = some (.int .i64 id) := by rw [cell_of_row wb ob _ _ _ _ HO.out]; rfl
      have o2 : wb.cell? ⟨ob, 2, none⟩ = some (.int .u64 du) := by rw [cell_of_row wb ob _ _ _ _ HO.out]; rfl
      have o3 : wb.cell? ⟨ob, 3, none⟩ = some (.int .i64 xx) := by rw [cell_of_row wb ob _ _ _ _ HO.out]; rfl
      refine (mod_any id 9 _ (by omega) (by omega) bi).mono ?_
      rintro e w3 ⟨r, hr, rfl, rfl⟩
      rename World => wb
      go_upto_if 43 with fail
      go_cut [7] (fun s7 wx => wb = wx ∧ ∃ q : Int, s7 = .int .i64 q ∧ -9223372036854775808 ≤ q ∧ q ≤ 9223372036854775807)
      case first =>
        by_cases h8 : (r : Int) < 8
        · go_wp2_with fail
          refine (mod_any id 30 _ (by omega) (by omega) bi).mono ?_
          rintro e w4 ⟨r2, hr2, rfl, rfl⟩
          go_wp2_with fail
          go_meet
          exact ⟨rfl, _, rfl, by omega, by omega⟩
        · go_wp2_with fail
          go_meet
          exact ⟨rfl, _, rfl, by omega, by omega⟩
      case rest =>
        obtain ⟨rfl, qd, rfl, hq1, hq2⟩ := hcut
        go_wp2_with fail
        refine (find_any xb iv L last qd _ HD.out.1.ref).mono ?_
        rintro e w4 ⟨rfl, hfind⟩
        obtain ⟨t, rfl, ht⟩ : ∃ t : Int, e = .returned (.int .i64 t) ∧ ((t = -1 ∧ ∀ (i : Nat) (e : Ent), L[i]? = some e → e.id ≠ qd) ∨ ∃ (ki : Nat) (en : Ent), t = (ki : Int) ∧ L[ki]? = some en ∧ en.id = qd) := by
          rcases hfind with ⟨h1, h2⟩ | ⟨ki, en, h1, h2, h3⟩
          · exact ⟨-1, h1, .inl ⟨rfl, h2⟩⟩
          · exact ⟨ki, h1, .inr ⟨ki, en, rfl, h2, h3⟩⟩
        have HT := Lib.hid ht
        clear hfind ht
        rename World => wb
        go_wp2_with fail
        refine (mod_any kd 8 _ (by omega) (by omega) bk).mono ?_
        rintro e w5 ⟨m, hm, rfl, rfl⟩
        rename World => wb
        have wq : (Lit.int .i64 qd).wf = true := WalkArith.wf_i64 (by omega)
        have HWQ := Lib.hid wq
        clear wq
        go_upto_block 2 with fail
        go_cut [9] (fun s9 wx => s9 = .bool true ∧ ∃ (sv' iv' : Value) (A' L' : List Ent) (last' : Int), (0 ≤ last' ∧ last' ≤ (i : Int) + 1) ∧ Hid (Duo w wx hb mb xb sv' iv' A' L' last' ∧ L'.length ≤ i + 1))
        case first =>
          by_cases hm4 : m < 4
          · have q1 : (m : Int) < 4 := by omega
            go_wp2_with fail
            go_region_held3 (fun w' => w'.cell? ⟨ob, 2, none⟩ = some (.int .u64 du) ∧ w'.cell? ⟨ob, 3, none⟩ = some (.int .i64 xx)) (go_keep) (first | (go_at_call 12; refine (someDue_any du _ bd).mono ?_; rintro e w' ⟨rfl, rfl⟩) | (go_at_call 11; refine (I.push_any hb mb sv A last (sd du) xx _ (HD.out.1.keep (Fr.drew No _)).live.heap HD.out.1.live.ord (by rw [HD.out.1.perm.length_eq]; have := HD.out.2; omega) (by omega) (sd_bd bd)).mono ?_; rintro e w6 ⟨rfl, sv6, A6, h1, h2, h3, h4, h5⟩; have hk4 := h4.block ob (block_lt_of_cell o2) (fun h => HB.out ob (Or.inl h) rfl); have v2 : w6.cell? ⟨ob, 2, none⟩ = some (.int .u64 du) := (World.cell?_of_block (a := ⟨ob, 2, none⟩) hk4).trans o2; have v3 : w6.cell? ⟨ob, 3, none⟩ = some (.int .i64 xx) := (World.cell?_of_block (a := ⟨ob, 3, none⟩) hk4).trans o3; have H6 := Lib.hid (And.intro h1 (And.intro h2 (And.intro h3 (And.intro h4 h5)))); clear h1 h2 h3 h4 h5 hk4) | (go_at_call 13; refine (push_ref xb iv L last (sd du) xx _ ((HD.out.1.keep (Fr.drew No _)).ref1 H6.out.2.2.2.1) (by have := HD.out.2; omega) (by omega) (sd_bd bd) (fun a ha => (HD.out.1.ids a ha).2)).mono ?_; rintro e w8 ⟨rfl, iv8, h6, h7, h8⟩; have hk8 := h7.block ob (block_lt_of_cell v2) (fun h => HB.out ob (Or.inr h) rfl); have u2 : w8.cell? ⟨ob, 2, none⟩ = some (.int .u64 du) := (World.cell?_of_block (a := ⟨ob, 2, none⟩) hk8).trans v2; have u3 : w8.cell? ⟨ob, 3, none⟩ = some (.int .i64 xx) := (World.cell?_of_block (a := ⟨ob, 3, none⟩) hk8).trans v3; have H8 := Lib.hid (And.intro h6 (And.intro h7 h8)); clear h6 h7 h8 hk8))
            all_goals (
              go_wp2_with fail
              go_meet
              refine ⟨by simp, sv6, iv8, A6, L ++ [⟨sd du, last + 1, .int .i64 xx⟩], last + 1, by omega, ?_, by have := HD.out.2; simp; omega⟩
              obtain ⟨h1, h2, h3, h4, h5⟩ := H6.out
              obtain ⟨h6, h7, h8⟩ := H8.out
              refine (HD.out.1.keep (Fr.drew No _)).step h1 h3 h4 h5 h6 h7 (fun k hk => ?_) ?_ ?_ ((HD.out.1.keep (Fr.drew No _)).ref1 h4)
              · rcases h8 k hk with h9 | h9
                · exact .inl h9
                · exact .inr (Nat.le_trans h4.size h9)
              · exact h2.trans (((List.perm_cons _).2 HD.out.1.perm).trans (List.perm_append_singleton _ _).symm)
              · intro e he
                rcases List.mem_append.1 he with he | he
                · have := HD.out.1.ids e he; omega
                · simp at he; subst he; exact ⟨by simp; omega, Int.le_refl _⟩)
          · have q1 : ¬ ((m : Int) < 4) := by omega
            by_cases hm5 : m = 4
            · subst hm5
              cases hA : A with
              | nil =>
                have hA0 : A = [] := hA
                have hL0 : L = [] := by have h := HD.out.1.perm; rw [hA0] at h; exact h.symm.eq_nil
                have HE := Lib.hid (And.intro hA0 hL0)
                clear hA hA0 hL0
                go_wp2_with fail
                refine (I.pop_empty hb mb sv last _ (by have h := HD.out.1.live.heap; rw [HE.out.1] at h; exact h)).mono ?_
                rintro e w6 ⟨rfl, rfl⟩
                rename World => wb
                go_wp2_with fail
                refine (reports_none xb iv last _ (by have h := HD.out.1.ref; rw [HE.out.2] at h; exact h)).mono ?_
                rintro e w7 ⟨rfl, hf7⟩
                have HD7 := Lib.hid (HD.out.1.keep hf7)
                clear hf7
                go_wp2_with fail
                refine (first_any xb iv L last _ HD7.out.ref).mono ?_
                rintro e w8 ⟨hf8, hfirst⟩
                obtain rfl : e = .returned (.int .i64 (-1)) := by
                  rcases hfirst with h | ⟨a, en, _, hL⟩
                  · exact h.1
                  · have h9 := hL.1; rw [HE.out.2] at h9; simp at h9
                have HD8 := Lib.hid (HD7.out.keep hf8)
                clear hf8 hfirst
                go_wp2_with fail
                go_meet
                exact ⟨rfl, sv, iv, A, L, last, by omega, HD8.out, by have := HD.out.2; omega⟩
              | cons e0 A0 =>
                have h00 : A[0]? = some e0 := by rw [hA]; rfl
                have hmemL : e0 ∈ L := HD.out.1.perm.mem_iff.1 (List.mem_of_getElem? h00)
                have hminL : ∀ b ∈ L, ¬ b.lt e0 := fun b hb' => by
                  obtain ⟨j, hj⟩ := mem_get (HD.out.1.perm.mem_iff.2 hb')
                  exact HD.out.1.live.ord.first h00 j b hj
                obtain ⟨x0, hx0⟩ := HD.out.1.live.heap.good.val 0 e0 h00
                have HE := Lib.hid (And.intro h00 (And.intro hmemL (And.intro hminL hx0)))
                clear hA h00 hmemL hminL hx0
                go_wp2_with fail
                refine (I.pop_some hb mb sv A last e0 _ HD.out.1.live.heap HD.out.1.live.ord HE.out.1).mono ?_
                rw [HE.out.2.2.2]
                rintro e w6 ⟨rfl, sv6, A6, h1, h2, h3, h4, h5⟩
                have H6 := Lib.hid (And.intro h1 (And.intro h2 (And.intro h3 (And.intro h4 h5))))
                have HX6 := Lib.hid (HD.out.1.ref1 h4)
                clear h1 h2 h3 h4 h5
                go_wp2_with fail
                refine (reports_some xb iv L last e0 x0 _ HX6.out HE.out.2.1 HE.out.2.2.1 HE.out.2.2.2).mono ?_
                rintro e w7 ⟨rfl, hf7⟩
                have HF7 := Lib.hid hf7
                clear hf7
                go_wp2_with fail
                refine (first_any xb iv L last _ (HX6.out.frNo HF7.out)).mono ?_
                rintro e w8 ⟨hf8, hfirst⟩
                obtain ⟨a8, rfl, g8⟩ : ∃ a : Nat, e = .returned (.int .i64 a) ∧ L[a]? = some e0 := by
                  rcases hfirst with h | ⟨a, en, h1, hL⟩
                  · have h9 := HE.out.2.1; rw [h.2] at h9; simp at h9
                  · exact ⟨a, h1, by rw [hL.1, least_is HX6.out.lst.inc hL HE.out.2.1 HE.out.2.2.1]⟩
                have HF8 := Lib.hid (HF7.out.trans hf8)
                have q8 : (0 : Int) ≤ (a8 : Int) := by omega
                clear hf8 hfirst g8
                go_wp2_with fail
                refine (first_any xb iv L last _ (HX6.out.frNo HF8.out)).mono ?_
                rintro e w9 ⟨hf9, hfirst⟩
                obtain ⟨a9, rfl, g9⟩ : ∃ a : Nat, e = .returned (.int .i64 a) ∧ L[a]? = some e0 := by
                  rcases hfirst with h | ⟨a, en, h1, hL⟩
                  · have h9 := HE.out.2.1; rw [h.2] at h9; simp at h9
                  · exact ⟨a, h1, by rw [hL.1, least_is HX6.out.lst.inc hL HE.out.2.1 HE.out.2.2.1]⟩
                have HF9 := Lib.hid (And.intro (HF8.out.trans hf9) g9)
                clear hf9 hfirst g9
                go_wp2_with fail
                refine (removeAt_ref xb iv L last a9 e0 _ (HX6.out.frNo HF9.out.1) HF9.out.2).mono ?_
                rintro e w10 ⟨rfl, iv10, h6, h7, h8⟩
                have H10 := Lib.hid (And.intro h6 (And.intro h7 h8))
                clear h6 h7 h8
                go_wp2_with fail
                go_meet
                refine ⟨rfl, sv6, iv10, A6, L.eraseIdx a9, last, by omega, ?_, by have := HD.out.2; have := (List.eraseIdx_sublist L a9).length_le; omega⟩
                obtain ⟨h1, h2, h3, h4, h5⟩ := H6.out
                obtain ⟨h6, h7, h8⟩ := H10.out
                refine HD.out.1.step (h1.frNo HF9.out.1) h3 (h4.trans HF9.out.1.no) (fun k hk => .inl (by rw [← h5]; exact hk)) h6 h7 (fun k hk => .inr (Nat.le_trans (Nat.le_trans h4.size HF9.out.1.size) (h8 k hk))) ?_ (fun e he => HD.out.1.ids e (List.mem_of_mem_eraseIdx he)) (HX6.out.frNo HF9.out.1)
                exact (List.perm_cons e0).1 (h2.trans (HD.out.1.perm.trans (erase_perm HF9.out.2).symm))
            · have q2 : ((m : Int) == 4) = false := by simpa using (by omega : ¬ (m : Int) = 4)
              by_cases hm7 : m < 7
              · have q3 : (m : Int) < 7 := by omega
                rcases HT.out with ⟨ht, hno⟩ | ⟨ki, ek, ht, gk, hk⟩
                · subst ht
                  have HNO : Hid (∀ (i : Nat) (e : Ent), A[i]? = some e → e.id ≠ qd) := fun j e hj => by
                    obtain ⟨k, hk⟩ := mem_get (HD.out.1.perm.mem_iff.1 (List.mem_of_getElem? hj))
                    exact hno k e hk
                  clear hno
                  go_wp2_with fail
                  refine (someDue_any du _ bd).mono ?_
                  rintro e w6 ⟨rfl, rfl⟩
                  rename World => wb
                  go_wp2_with fail
                  refine (I.update_miss hb mb sv A last qd (sd du) _ HD.out.1.live.heap HWQ.out HNO.out).mono ?_
                  rintro e w7 ⟨rfl, rfl⟩
                  go_wp2_with fail
                  go_meet
                  exact ⟨by simp, sv, iv, A, L, last, by omega, HD.out.1, by have := HD.out.2; omega⟩
                · subst ht
                  subst hk
                  have hk0 : (0 : Int) ≤ (ki : Int) := by omega
                  obtain ⟨kj, gj⟩ := HD.out.1.mem gk
                  have HK := Lib.hid (And.intro gk gj)
                  clear gk gj
                  go_wp2_with fail
                  refine (someDue_any du _ bd).mono ?_
                  rintro e w6 ⟨rfl, rfl⟩
                  rename World => wb
                  go_wp2_with fail
                  refine (I.update_hit hb mb sv A last kj ek (sd du) _ HD.out.1.live.heap HD.out.1.live.ord HK.out.2 (sd_bd bd)).mono ?_
                  rintro e w7 ⟨rfl, A7, h1, h2, h3, h4⟩
                  have o7 : w7.cell? ⟨ob, 2, none⟩ = some (.int .u64 du) := (World.cell?_of_block (a := ⟨ob, 2, none⟩) (h4.block ob (block_lt_of_cell o2) (fun h => HB.out ob (Or.inl h) rfl))).trans o2
                  have hx7 := HD.out.1.ref1 h4
                  have H7 := Lib.hid (And.intro h1 (And.intro h2 (And.intro h3 h4)))
                  clear h1 h2 h3 h4 o0 o1 o2 o3
                  obtain ⟨g, cap, rfl⟩ := hx7.form (by have := (List.getElem?_eq_some_iff.1 HK.out.1).1; omega)
                  obtain ⟨ln, hln⟩ : ∃ n, L.length = n := ⟨_, rfl⟩
                  rw [hln] at hx7
                  have hkl : ki < ln := by have := (List.getElem?_eq_some_iff.1 HK.out.1).1; omega
                  have x0 := hx7.hcell.1
                  have x1 := (hx7.ecell HK.out.1).2.1
                  have xf := hx7.efrozen hln (ki * 3 + 1)
                  have p5 : (ki : Int) < (ln : Int) := by omega
                  have HX7 := Lib.hid (And.intro hx7 hln)
                  clear hx7 hln
                  go_wp2_with fail
                  refine region_tail 10 (by kernel_rfl) (by kernel_rfl) ?_
                  intro y hy
                  have HY := Lib.hid hy
                  have y0 : y.cell? ⟨xb, 0, none⟩ = some (.slice (some ⟨g, 0, none⟩) ln cap) := by subst hy; exact x0
                  have y1 : y.cell? ⟨g, ki * 3 + 1, none⟩ = some (.int .u64 ek.due) := by subst hy; exact x1
                  have yf : y.frozen? ⟨g, ki * 3 + 1, none⟩ = false := by subst hy; exact xf
                  have y2 : y.cell? ⟨ob, 2, none⟩ = some (.int .u64 du) := by subst hy; exact o7
                  clear hy x0 x1 xf o7
                  simp only [List.take_succ_cons, List.take_zero, List.drop_succ_cons, List.drop_zero]
                  iterate 7 still_step
                  still_call (someDue_any du _ bd)
                  iterate 2 still_step
                  refine wpStill_nil ?_
                  go_wp2_with fail
                  go_meet
                  refine ⟨by simp, sv, .slice (some ⟨g, 0, none⟩) ln cap, A7, L.set ki { ek with due := sd du }, last, by omega, ?_, by have := HD.out.2; simp; omega⟩
                  obtain ⟨h1, h2, h3, h4⟩ := H7.out
                  have hr8 := due_ref (HX7.out.1.frNo (Fr.drew No _)) HX7.out.2 HK.out.1 (sd_bd bd)
                  rw [← HY.out] at hr8
                  refine HD.out.1.step h1 h3 h4 (fun k hk => .inl hk) hr8 (Fr.trans (b := y) ?_ (Fr.setCell _ _ ⟨g, ki * 3 + 1, none⟩ _ (Or.inr rfl))) (fun k hk => .inl hk) (h2.trans (due_perm HD.out.1.perm HK.out.2 HK.out.1)) ?_ (HD.out.1.ref1 h4)
                  · rw [HY.out]; exact Fr.drew _ _
                  · intro e he
                    obtain ⟨q, hq⟩ := mem_get he
                    rw [set_get HK.out.1] at hq
                    split at hq
                    · cases hq; exact HD.out.1.ids ek (List.mem_of_getElem? HK.out.1)
                    · exact HD.out.1.ids e (List.mem_of_getElem? hq)
              · have q3 : ¬ ((m : Int) < 7) := by omega
                rcases HT.out with ⟨ht, hno⟩ | ⟨ki, ek, ht, gk, hk⟩
                · subst ht
                  have HNO : Hid (∀ (i : Nat) (e : Ent), A[i]? = some e → e.id ≠ qd) := fun j e hj => by
                    obtain ⟨k, hk⟩ := mem_get (HD.out.1.perm.mem_iff.1 (List.mem_of_getElem? hj))
                    exact hno k e hk
                  clear hno
                  go_wp2_with fail
                  refine (I.remove_miss hb mb sv A last qd _ HD.out.1.live.heap HWQ.out HNO.out).mono ?_
                  rintro e w7 ⟨rfl, rfl⟩
                  go_wp2_with fail
                  go_meet
                  exact ⟨by simp, sv, iv, A, L, last, by omega, HD.out.1, by have := HD.out.2; omega⟩
                · subst ht
                  subst hk
                  have hk0 : (0 : Int) ≤ (ki : Int) := by omega
                  obtain ⟨kj, gj⟩ := HD.out.1.mem gk
                  have HK := Lib.hid (And.intro gk gj)
                  clear gk gj
                  go_wp2_with fail
                  refine (I.remove_hit hb mb sv A last kj ek _ HD.out.1.live.heap HD.out.1.live.ord HK.out.2).mono ?_
                  rintro e w7 ⟨rfl, sv7, A7, h1, h2, h3, h4, h5⟩
                  have H7 := Lib.hid (And.intro h1 (And.intro h2 (And.intro h3 (And.intro h4 h5))))
                  clear h1 h2 h3 h4 h5 o0 o1 o2 o3
                  go_wp2_with fail
                  refine (removeAt_ref xb iv L last ki ek _ (HD.out.1.ref1 H7.out.2.2.2.1) HK.out.1).mono ?_
                  rintro e w8 ⟨rfl, iv8, h6, h7, h8⟩
                  have H8 := Lib.hid (And.intro h6 (And.intro h7 h8))
                  clear h6 h7 h8
                  go_wp2_with fail
                  go_meet
                  refine ⟨by simp, sv7, iv8, A7, L.eraseIdx ki, last, by omega, ?_, by have := HD.out.2; have := (List.eraseIdx_sublist L ki).length_le; omega⟩
                  obtain ⟨h1, h2, h3, h4, h5⟩ := H7.out
                  obtain ⟨h6, h7, h8⟩ := H8.out
                  refine HD.out.1.step h1 h3 h4 (fun k hk => .inl (by rw [← h5]; exact hk)) h6 h7 (fun k hk => .inr (Nat.le_trans h4.size (h8 k hk))) ?_ (fun e he => HD.out.1.ids e (List.mem_of_mem_eraseIdx he)) (HD.out.1.ref1 h4)
                  exact (List.perm_cons ek).1 (h2.trans (HD.out.1.perm.trans (erase_perm HK.out.1).symm))
        case rest =>
          obtain ⟨rfl, sv', iv', A', L', last', hlast', HC⟩ := hcut
          clear HD HO HB o0 o1 o2 o3 HT HWQ HR
          obtain ⟨ln, hln⟩ : ∃ n, L'.length = n := ⟨_, rfl⟩
          obtain ⟨ax, cx, rfl⟩ := HC.out.1.ref.form0
          have hln2 := HC.out.2
          have hAl := HC.out.1.perm.length_eq.trans hln
          rw [hln] at HC hln2
          have HAL := Lib.hid (And.intro hAl hln)
          clear hAl hln
          cases hA : A' with
          | nil =>
            have hA0 : A' = [] := hA
            have hL0 : L' = [] := by have h := HC.out.1.perm; rw [hA0] at h; exact h.symm.eq_nil
            have HE := Lib.hid (And.intro hA0 hL0)
            clear hA hA0 hL0
            go_wp2_with fail
            refine (I.min_empty hb mb sv' last' _ (by have h := HC.out.1.live.heap; rw [HE.out.1] at h; exact h)).mono ?_
            rintro e w5 ⟨rfl, rfl⟩
            have HM := Lib.hid HC.out.1
            have k5 := HM.out.ref.hcell.1
            go_wp2_with fail
            go_region_held3 (fun w' => w'.cell? ⟨xb, 0, none⟩ = some (.slice ax ln cx)) (go_keep) (first | (go_at_call 15; refine (reports_none xb _ last' _ (by have h := (HM.out.keep (Fr.drew No _)).ref; rw [HE.out.2] at h; exact h)).mono ?_; rintro e w6 ⟨rfl, hf6⟩; have H6 := Lib.hid ((HM.out.keep (Fr.drew No _)).keep hf6); have k6 := H6.out.ref.hcell.1; clear hf6) | (go_at_call 21; refine (I.len_any hb mb sv' A' last' _ H6.out.live.heap).mono ?_; rw [HAL.out.1]; rintro e w7 ⟨rfl, rfl⟩) | (go_at_call 23; refine (I.handles_any hb mb sv' A' last' _ H6.out.live.heap).mono ?_; rw [HAL.out.1]; rintro e w8 ⟨rb, S, rfl, g1, g2, g3, g4, g5⟩; have H8 := Lib.hid (And.intro (H6.out.keep g5) (And.intro g2 (And.intro g3 g4))); have k8 := H8.out.1.ref.hcell.1; clear g1 g2 g3 g4 g5) | (go_at_call 24; refine (handles_ref xb _ L' last' _ H8.out.1.ref).mono ?_; rintro e w9 ⟨ar, cr, T, rfl, t1, t2, t3, t4⟩; have H9 := Lib.hid (And.intro (H8.out.1.keep t4) (And.intro ((H8.out.2.2.2.ints (H8.out.2.1.length_eq.trans HAL.out.1)).fr t4 (fun _ _ h => h)) (And.intro t3 (sorted_unique (H8.out.2.1.trans (HM.out.perm.trans t1.symm)) H8.out.2.2.1 t2)))); have k9 := H9.out.1.ref.hcell.1; clear t1 t2 t3 t4) | (go_at_call 22; refine (equal_any _ _ _ _ _ _ (S.map Ent.id) (T.map Ent.id) _ H9.out.2.1 H9.out.2.2.1 (by omega)).mono ?_; rw [decide_eq_true (congrArg (List.map Ent.id) H9.out.2.2.2)]; rintro e w10 ⟨rfl, hf10⟩; have H10 := Lib.hid (H9.out.1.keep hf10); have k10 := H10.out.ref.hcell.1; clear hf10))
            all_goals (
              go_wp2_with fail
              go_roundg (80 - i)
              case measure => exact hig
              case rel => exact ⟨i + 1, sv', .slice ax ln cx, A', L', last', by go_num, by omega, by omega, by omega, H10.out, by rw [HAL.out.2]; exact HC.out.2⟩)
          | cons e0 A0 =>
            have h00 : A'[0]? = some e0 := by rw [hA]; rfl
            have hmemL : e0 ∈ L' := HC.out.1.perm.mem_iff.1 (List.mem_of_getElem? h00)
            have hminL : ∀ b ∈ L', ¬ b.lt e0 := fun b hb' => by
              obtain ⟨j, hj⟩ := mem_get (HC.out.1.perm.mem_iff.2 hb')
              exact HC.out.1.live.ord.first h00 j b hj
            obtain ⟨x0, hx0⟩ := HC.out.1.live.heap.good.val 0 e0 h00
            have HE := Lib.hid (And.intro h00 (And.intro hmemL (And.intro hminL hx0)))
            clear hA h00 hmemL hminL hx0
            go_wp2_with fail
            refine (I.min_some hb mb sv' A' last' e0 _ HC.out.1.live.heap HE.out.1).mono ?_
            rw [HE.out.2.2.2]
            rintro e w5 ⟨rfl, hf5⟩
            have HM := Lib.hid (HC.out.1.keep hf5)
            have k5 := HM.out.ref.hcell.1
            clear hf5
            go_wp2_with fail
            go_region_held3 (fun w' => w'.cell? ⟨xb, 0, none⟩ = some (.slice ax ln cx)) (go_keep) (first | (go_at_call 15; refine (reports_some xb _ L' last' e0 x0 _ (HM.out.keep (Fr.drew No _)).ref HE.out.2.1 HE.out.2.2.1 HE.out.2.2.2).mono ?_; rintro e w6 ⟨rfl, hf6⟩; have H6 := Lib.hid ((HM.out.keep (Fr.drew No _)).keep hf6); have k6 := H6.out.ref.hcell.1; clear hf6) | (go_at_call 21; refine (I.len_any hb mb sv' A' last' _ H6.out.live.heap).mono ?_; rw [HAL.out.1]; rintro e w7 ⟨rfl, rfl⟩) | (go_at_call 23; refine (I.handles_any hb mb sv' A' last' _ H6.out.live.heap).mono ?_; rw [HAL.out.1]; rintro e w8 ⟨rb, S, rfl, g1, g2, g3, g4, g5⟩; have H8 := Lib.hid (And.intro (H6.out.keep g5) (And.intro g2 (And.intro g3 g4))); have k8 := H8.out.1.ref.hcell.1; clear g1 g2 g3 g4 g5) | (go_at_call 24; refine (handles_ref xb _ L' last' _ H8.out.1.ref).mono ?_; rintro e w9 ⟨ar, cr, T, rfl, t1, t2, t3, t4⟩; have H9 := Lib.hid (And.intro (H8.out.1.keep t4) (And.intro ((H8.out.2.2.2.ints (H8.out.2.1.length_eq.trans HAL.out.1)).fr t4 (fun _ _ h => h)) (And.intro t3 (sorted_unique (H8.out.2.1.trans (HM.out.perm.trans t1.symm)) H8.out.2.2.1 t2)))); have k9 := H9.out.1.ref.hcell.1; clear t1 t2 t3 t4) | (go_at_call 22; refine (equal_any _ _ _ _ _ _ (S.map Ent.id) (T.map Ent.id) _ H9.out.2.1 H9.out.2.2.1 (by omega)).mono ?_; rw [decide_eq_true (congrArg (List.map Ent.id) H9.out.2.2.2)]; rintro e w10 ⟨rfl, hf10⟩; have H10 := Lib.hid (H9.out.1.keep hf10); have k10 := H10.out.ref.hcell.1; clear hf10))
            all_goals (
              go_wp2_with fail
              go_roundg (80 - i)
              case measure => exact hig
              case rel => exact ⟨i + 1, sv', .slice ax ln cx, A', L', last', by go_num, by omega, by omega, by omega, H10.out, by rw [HAL.out.2]; exact HC.out.2⟩)
    · have q1 : ¬ ((i : Int) < (len0 : Int)) ∨ ((i : Int) < (len0 : Int) ∧ ¬ ((i : Int) < 80)) := by omega
      clear hin
      rcases q1 with q1 | ⟨q1, q2⟩
      · go_wp2_with fail
        refine (awake_any _).mono ?_
        rintro e w3 ⟨rfl, hf⟩
        have L3 := Lib.hid (HR.out.1.live.keep hf)
        clear hf
        go_wp2_with fail
        go_ret
        exact ⟨rfl, L3.out.below⟩
      · go_wp2_with fail
        refine (awake_any _).mono ?_
        rintro e w3 ⟨rfl, hf⟩
        have L3 := Lib.hid (HR.out.1.live.keep hf)
        clear hf
        go_wp2_with fail
        go_ret
        exact ⟨rfl, L3.out.below⟩

set_option maxRecDepth 100000 in
theorem lifted (os : Os) (started : os.Started) (H : Type) (enc : TypeId × Value → H) :
    ReturnsInHanded {} Try.checked os 3 .any (Rows.heapMatchesModelSpec.pre6 enc Try.prog Try.f3 Rows.heapMatchesModelRow.domain false) (Rows.heapMatchesModelSpec.post enc Try.prog Try.f3 false true false false) := by
  refine returnsInHanded_of_change (C := Try.checked) own started (by kernel_rfl) Try.func3
    (ChangeSpec.witness6 (enc := enc) (C := Try.checked) false ⟨#[], #[.slice none 0 0], []⟩ 8 (by kernel_rfl) (by kernel_rfl) (by kernel_rfl) (by kernel_rfl)) ?_
  intro W base args ds gs before hval0 hW hcnd _
  have hval : ∀ (j : Nat) t v, Try.f3.params[j]? = some t → args[j]? = some v → Value.okWide Try.prog W .any base t v := hval0
  have hW' := hW
  obtain ⟨p, q, hA0, hV, rfl, hfz, hnd⟩ := hW
  have hA : DataW.TrodAll enc Try.prog W 0 (fun _ => true) true Try.f3.params.toList args.toList ds p := hA0
  rw [Try.params3] at hA hval
  obtain ⟨v0, vs0, d0, ds0, p0, q0, hargs, rfl, rfl, h0, r0⟩ := trodAll_cons hA
  obtain ⟨rfl, rfl, rfl⟩ := trodAll_nil r0
  obtain rfl : args = #[v0] := by cases args; simp_all
  obtain ⟨rfl, rfl⟩ := trodVars_none hV
  obtain ⟨a0, len0, cap0, rfl⟩ := okWide_slice Try.underlying22 (hval 0 22 v0 rfl rfl)
  have k0 := h0
  have lt0 : ∀ x ∈ p0, x.block < W.heap.size := by obtain ⟨m, hm⟩ := k0; exact DataW.trod_lt m _ _ _ hm
  have w0 : OpRow W a0 len0 := by
    obtain ⟨fuel, hf⟩ := h0
    exact ops_open hf
  clear hA0 hval0
  refine (walk a0 len0 cap0 W w0).mono fun e W' ⟨he, bel⟩ => ?_
  subst he
  exact ⟨_, rfl, _, _, _, [], _, [], hW', trodAll_mk1 (shut_bool Try.underlying4 _), (trodAll_cons_mk (Below.trod laidOut (by kernel_rfl) (of_decide_eq_true (by kernel_rfl)) k0 bel lt0) trodAll_mk0), rfl, bel.frame _, fun h => by cases h⟩

theorem over : Rows.heapMatchesModelRow.holds Try.pinned (OpenSpec.ofChange Rows.heapMatchesModelSpec) :=
  OpenClaim.holds_of_wide 3 Try.f3 rfl rfl rfl rfl rfl rfl rfl ⟨rfl, rfl, rfl, rfl, rfl⟩ rfl rfl rfl rfl rfl (by kernel_rfl) Try.func3 (by kernel_rfl)
    (of_decide_eq_true (by kernel_rfl)) (by unfold Func.isWrapper; first | (rw [if_pos (by decide +kernel)]; kernel_rfl) | (rw [if_neg (by decide +kernel)]; exact ⟨rfl, rfl⟩))
    (fun os started H enc _ => lifted os started H enc)

end Go.Proofs.Ytbobokhlcbojkaa.heapMatchesModel

namespace Go.Proofs.Ytbobokhlcbojkaa
/-- The statement. -/
theorem heapMatchesModel_holds : Rows.HeapMatchesModelSaid := heapMatchesModel.over
#print axioms heapMatchesModel_holds
end Go.Proofs.Ytbobokhlcbojkaa
