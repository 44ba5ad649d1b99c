/-
  The law HeapOrderInvariant returns true for every list of operations, and changes nothing that was in memory before.
  Conditions: none beyond the row's own.
-/
import Derived.Test.YtbobokhlcbojkaaOps
import Derived.WalkKit
import Derived.ProofKit
import Derived.OpenShut
import Derived.ShutString
import Derived.ChangeOld
import Derived.Below
namespace Go.Proofs.Ytbobokhlcbojkaa.heapOrderInvariant
open Go.ChangeShapes Go.WideShapes Go.ChangeAt Go.RowKit
open Go.ChangeMaps (open_string shut_string)
set_option linter.unusedVariables false

theorem own : ownKnob Try.prog.godebug = none := by kernel_rfl
theorem laidOut : laidOutB Try.prog = true := by kernel_rfl

set_option maxHeartbeats 16000000 in
set_option maxRecDepth 1000000 in
theorem walk (a0 : Option Addr) (len0 cap0 : Nat) (w : World) (w0 : OpRow w a0 len0) :
    Calls Try.prog 4 #[.slice a0 len0 cap0] w fun e w' => e = .returned (.bool true) ∧ Below w.heap.size w w' := by
  have HI := Lib.hid w0
  have hlen := HI.out.1
  clear w0
  go_enter Try.func4, Try.ntmps4
  go_wp2_with fail
  refine (I.new_any _).mono ?_
  rintro e w1 ⟨hb, mb, rfl, h1, h2, h3, h4⟩
  have HD0 := Lib.hid (duo_born (Live.born h1 (Fr.refl No w) h2 h3 h4))
  clear h1 h2 h3 h4
  go_wp2_with fail
  obtain ⟨xb, hxb⟩ : ∃ xb, w1.heap.size = xb := ⟨_, rfl⟩
  rw [hxb] at HD0 ⊢
  clear hxb
  revert HD0
  generalize w1.alloc (.cells #[.slice none 0 0, .int .i64 0] 28) = w2
  intro HD0
  go_loopg [5] 61 (fun g s wr => ∃ (i : Nat) (sv iv : Value) (A L : List Ent) (last : Int), s = .int .i64 i ∧ i ≤ 60 ∧ 60 - i < g ∧ (0 ≤ last ∧ last ≤ i) ∧ Hid (Duo w wr hb mb xb sv iv A L last ∧ L.length ≤ i))
  case atStart => exact ⟨0, _, _, [], [], 0, by go_num, by omega, by omega, by omega, HD0.out, by simp⟩
  case round =>
    obtain ⟨i, sv, iv, A, L, last, rfl, hi60, hig, hlast, HR⟩ := hrel
    clear HD0
    by_cases hin : i < len0 ∧ i < 60
    · obtain ⟨hin1, hin2⟩ := hin
      obtain ⟨kd, id, du, xx, hop, bk, bi, bd, bx⟩ := HI.out.2 i hin1
      obtain ⟨b, off, rfl, c0, c1, c2, c3⟩ := hop.fr HR.out.1.live.fr
      have p1 : (0 : Int) ≤ (i : Int) := by omega
      have p2 : (i : Int) < (len0 : Int) := by omega
      have p3 : (i : Int) < 60 := by omega
      clear hop
      go_wp2_with fail
      have HD : Hid (Duo w (wr.alloc (.cells #[.int .i64 kd, .int .i64 id, .int .u64 du, .int .i64 xx] 31)) hb mb xb sv iv A L last ∧ L.length ≤ i) := ⟨HR.out.1.keep (Fr.alloc No _ _), HR.out.2⟩
      have HO : Hid ((wr.alloc (.cells #[.int .i64 kd, .int .i64 id, .int .u64 du, .int .i64 xx] 31)).heap[wr.heap.size]? = some (.cells #[.int .i64 kd, .int .i64 id, .int .u64 du, .int .i64 xx] 31 (0, 0))) := heap_alloc_new wr _
      have HB : Hid (∀ k, Own hb mb sv k ∨ OwnR xb iv k → k ≠ wr.heap.size) := fun k hk e => by
        rcases hk with hk | hk
        · have := HR.out.1.live.heap.own_lt hk; omega
        · have := HR.out.1.ref.own_lt hk; omega
      clear c0 c1 c2 c3
      obtain ⟨ob, hob⟩ : ∃ ob, wr.heap.size = ob := ⟨_, rfl⟩
      rw [hob] at HO HB ⊢
      clear hob
      revert HD HO
      generalize wr.alloc (.cells #[.int .i64 kd, .int .i64 id, .int .u64 du, .int .i64 xx] 31) = wb
      intro HD HO
      have o0 : wb.cell? ⟨ob, 0, none⟩ = some (.int .i64 kd) := by rw [cell_of_row wb ob _ _ _ _ HO.out]; rfl
      have o2 : wb.cell? ⟨ob, 2, none⟩ = some (.int .u64 du) := by rw [cell_of_row wb ob _ _ _ _ HO.out]; rfl
      refine (mod_any id 20 _ (by omega) (by omega) bi).mono ?_
      rintro e w3 ⟨r, hr, rfl, rfl⟩
      go_wp2_with fail
      obtain ⟨qd, hqd⟩ : ∃ qd : Int, (1 : Int) + (r : Int) = qd := ⟨_, rfl⟩
      have hq1 : 1 ≤ qd ∧ qd ≤ 20 := by omega
      rw [hqd]
      clear hqd hr
      refine (find_any xb iv L last qd _ HD.out.1.ref).mono ?_
      rintro e w4 ⟨rfl, hfind⟩
      rcases hfind with ⟨rfl, hno⟩ | ⟨ki, ek, rfl, gk, hk⟩
      · clear hno
        go_wp2_with fail
        refine (mod_any kd 9 _ (by omega) (by omega) bk).mono ?_
        rintro e w5 ⟨m, hm, rfl, rfl⟩
        by_cases hm5 : m < 5
        · have q1 : (m : Int) < 5 := by omega
          go_wp2_with fail
          refine (someDue_any du _ bd).mono ?_
          rintro e w5 ⟨rfl, rfl⟩
          go_wp2_with fail
          refine (I.push_any hb mb sv A last (sd du) i _ HD.out.1.live.heap HD.out.1.live.ord (by rw [HD.out.1.perm.length_eq]; have := HD.out.2; omega) (by omega) (sd_bd bd)).mono ?_
          rintro e w6 ⟨rfl, sv6, A6, h1, h2, h3, h4, h5⟩
          have o6 : w6.cell? ⟨ob, 2, none⟩ = some (.int .u64 du) := (World.cell?_of_block (a := ⟨ob, 2, none⟩) (h4.block ob (block_lt_of_cell o2) (fun h => HB.out ob (Or.inl h) rfl))).trans o2
          have H6 := Lib.hid (And.intro h1 (And.intro h2 (And.intro h3 (And.intro h4 h5))))
          clear h1 h2 h3 h4 h5 o0 o2
          go_wp2_with fail
          refine (someDue_any du _ bd).mono ?_
          rintro e w7 ⟨rfl, rfl⟩
          go_wp2_with fail
          refine (push_ref xb iv L last (sd du) i _ (HD.out.1.ref1 H6.out.2.2.2.1) (by have := HD.out.2; omega) (by omega) (sd_bd bd) (fun a ha => (HD.out.1.ids a ha).2)).mono ?_
          rintro e w8 ⟨rfl, iv8, h6, h7, h8⟩
          have HD8 : Hid (Duo w w8 hb mb xb sv6 iv8 A6 (L ++ [⟨sd du, last + 1, .int .i64 i⟩]) (last + 1)) := by
            obtain ⟨h1, h2, h3, h4, h5⟩ := H6.out
            refine HD.out.1.step h1 h3 h4 h5 h6 h7 (fun k hk => ?_) ?_ ?_ (HD.out.1.ref1 h4)
            · rcases h8 k hk with h9 | h9
              · exact .inl h9
              · exact .inr (Nat.le_trans h4.size h9)
            · exact h2.trans (((List.perm_cons _).2 HD.out.1.perm).trans (List.perm_append_singleton _ _).symm)
            · intro e he
              rcases List.mem_append.1 he with he | he
              · have := HD.out.1.ids e he; omega
              · simp at he; subst he; exact ⟨by simp; omega, Int.le_refl _⟩
          clear h6 h7 h8 o6
          go_wp2_with fail
          refine (heapOrdered_any hb mb xb _ _ _ _ _ _ _ HD8.out.live.heap HD8.out.ref HD8.out.perm HD8.out.live.ord).mono ?_
          rintro e w9 ⟨rfl, hf9⟩
          have HD9 := Lib.hid (HD8.out.keep hf9)
          clear hf9
          go_wp2_with fail
          go_roundg (60 - i)
          case measure => exact hig
          case rel => exact ⟨i + 1, sv6, iv8, A6, L ++ [⟨sd du, last + 1, .int .i64 i⟩], last + 1, by go_num, by omega, by omega, by omega, HD9.out, by have := HD.out.2; simp; omega⟩
        · have q1 : ¬ ((m : Int) < 5) := by omega
          by_cases hm7 : m < 7
          · have q2 : (m : Int) < 7 := by omega
            have q3 : (m : Int) < 9 := by omega
            go_wp2_with fail
            refine (heapOrdered_any hb mb xb _ _ _ _ _ _ _ HD.out.1.live.heap HD.out.1.ref HD.out.1.perm HD.out.1.live.ord).mono ?_
            rintro e w9 ⟨rfl, hf9⟩
            have HD9 := Lib.hid (HD.out.1.keep hf9)
            clear hf9
            go_wp2_with fail
            go_roundg (60 - i)
            case measure => exact hig
            case rel => exact ⟨i + 1, sv, iv, A, L, last, by go_num, by omega, by omega, by omega, HD9.out, by have := HD.out.2; omega⟩
          · have q2 : ¬ ((m : Int) < 7) := by omega
            have q3 : (m : Int) < 9 := by omega
            go_wp2_with fail
            refine (heapOrdered_any hb mb xb _ _ _ _ _ _ _ HD.out.1.live.heap HD.out.1.ref HD.out.1.perm HD.out.1.live.ord).mono ?_
            rintro e w9 ⟨rfl, hf9⟩
            have HD9 := Lib.hid (HD.out.1.keep hf9)
            clear hf9
            go_wp2_with fail
            go_roundg (60 - i)
            case measure => exact hig
            case rel => exact ⟨i + 1, sv, iv, A, L, last, by go_num, by omega, by omega, by omega, HD9.out, by have := HD.out.2; omega⟩
      · have hk0 : (0 : Int) ≤ (ki : Int) := by omega
        obtain ⟨kj, gj⟩ := HD.out.1.mem gk
        have HK := Lib.hid (And.intro gk gj)
        subst hk
        clear gk gj
        go_wp2_with fail
        refine (mod_any kd 9 _ (by omega) (by omega) bk).mono ?_
        rintro e w5 ⟨m, hm, rfl, rfl⟩
        by_cases hm5 : m < 5
        · have q1 : (m : Int) < 5 := by omega
          go_wp2_with fail
          refine (someDue_any du _ bd).mono ?_
          rintro e w5 ⟨rfl, rfl⟩
          go_wp2_with fail
          refine (I.push_any hb mb sv A last (sd du) i _ HD.out.1.live.heap HD.out.1.live.ord (by rw [HD.out.1.perm.length_eq]; have := HD.out.2; omega) (by omega) (sd_bd bd)).mono ?_
          rintro e w6 ⟨rfl, sv6, A6, h1, h2, h3, h4, h5⟩
          have o6 : w6.cell? ⟨ob, 2, none⟩ = some (.int .u64 du) := (World.cell?_of_block (a := ⟨ob, 2, none⟩) (h4.block ob (block_lt_of_cell o2) (fun h => HB.out ob (Or.inl h) rfl))).trans o2
          have H6 := Lib.hid (And.intro h1 (And.intro h2 (And.intro h3 (And.intro h4 h5))))
          clear h1 h2 h3 h4 h5 o0 o2
          go_wp2_with fail
          refine (someDue_any du _ bd).mono ?_
          rintro e w7 ⟨rfl, rfl⟩
          go_wp2_with fail
          refine (push_ref xb iv L last (sd du) i _ (HD.out.1.ref1 H6.out.2.2.2.1) (by have := HD.out.2; omega) (by omega) (sd_bd bd) (fun a ha => (HD.out.1.ids a ha).2)).mono ?_
          rintro e w8 ⟨rfl, iv8, h6, h7, h8⟩
          have HD8 : Hid (Duo w w8 hb mb xb sv6 iv8 A6 (L ++ [⟨sd du, last + 1, .int .i64 i⟩]) (last + 1)) := by
            obtain ⟨h1, h2, h3, h4, h5⟩ := H6.out
            refine HD.out.1.step h1 h3 h4 h5 h6 h7 (fun k hk => ?_) ?_ ?_ (HD.out.1.ref1 h4)
            · rcases h8 k hk with h9 | h9
              · exact .inl h9
              · exact .inr (Nat.le_trans h4.size h9)
            · exact h2.trans (((List.perm_cons _).2 HD.out.1.perm).trans (List.perm_append_singleton _ _).symm)
            · intro e he
              rcases List.mem_append.1 he with he | he
              · have := HD.out.1.ids e he; omega
              · simp at he; subst he; exact ⟨by simp; omega, Int.le_refl _⟩
          clear h6 h7 h8 o6
          go_wp2_with fail
          refine (heapOrdered_any hb mb xb _ _ _ _ _ _ _ HD8.out.live.heap HD8.out.ref HD8.out.perm HD8.out.live.ord).mono ?_
          rintro e w9 ⟨rfl, hf9⟩
          have HD9 := Lib.hid (HD8.out.keep hf9)
          clear hf9
          go_wp2_with fail
          go_roundg (60 - i)
          case measure => exact hig
          case rel => exact ⟨i + 1, sv6, iv8, A6, L ++ [⟨sd du, last + 1, .int .i64 i⟩], last + 1, by go_num, by omega, by omega, by omega, HD9.out, by have := HD.out.2; simp; omega⟩
        · have q1 : ¬ ((m : Int) < 5) := by omega
          by_cases hm7 : m < 7
          · have q2 : (m : Int) < 7 := by omega
            go_wp2_with fail
            refine (someDue_any du _ bd).mono ?_
            rintro e w6 ⟨rfl, rfl⟩
            go_wp2_with fail
            refine (I.update_hit hb mb sv A last kj ek (sd du) _ HD.out.1.live.heap HD.out.1.live.ord HK.out.2 (sd_bd bd)).mono ?_
            rintro e w7 ⟨rfl, A7, h1, h2, h3, h4⟩
            have o7 : w7.cell? ⟨ob, 2, none⟩ = some (.int .u64 du) := (World.cell?_of_block (a := ⟨ob, 2, none⟩) (h4.block ob (block_lt_of_cell o2) (fun h => HB.out ob (Or.inl h) rfl))).trans o2
            have hx7 := HD.out.1.ref1 h4
            have H7 := Lib.hid (And.intro h1 (And.intro h2 (And.intro h3 h4)))
            clear h1 h2 h3 h4 o0 o2
            obtain ⟨g, cap, rfl⟩ := hx7.form (by have := (List.getElem?_eq_some_iff.1 HK.out.1).1; omega)
            obtain ⟨ln, hln⟩ : ∃ n, L.length = n := ⟨_, rfl⟩
            rw [hln] at hx7
            have hkl : ki < ln := by have := (List.getElem?_eq_some_iff.1 HK.out.1).1; omega
            have x0 := hx7.hcell.1
            have x1 := (hx7.ecell HK.out.1).2.1
            have xf := hx7.efrozen hln (ki * 3 + 1)
            have p5 : (ki : Int) < (ln : Int) := by omega
            have HX7 := Lib.hid (And.intro hx7 hln)
            clear hx7 hln
            go_wp2_with fail
            refine region_tail 10 (by kernel_rfl) (by kernel_rfl) ?_
            intro y hy
            have HY := Lib.hid hy
            have y0 : y.cell? ⟨xb, 0, none⟩ = some (.slice (some ⟨g, 0, none⟩) ln cap) := by subst hy; exact x0
            have y1 : y.cell? ⟨g, ki * 3 + 1, none⟩ = some (.int .u64 ek.due) := by subst hy; exact x1
            have yf : y.frozen? ⟨g, ki * 3 + 1, none⟩ = false := by subst hy; exact xf
            have y2 : y.cell? ⟨ob, 2, none⟩ = some (.int .u64 du) := by subst hy; exact o7
            clear hy x0 x1 xf o7
            simp only [List.take_succ_cons, List.take_zero, List.drop_succ_cons, List.drop_zero]
            iterate 7 still_step
            still_call (someDue_any du _ bd)
            iterate 2 still_step
            refine wpStill_nil ?_
            go_wp2_with fail
            have HD8 : Hid (Duo w (y.setCell ⟨g, ki * 3 + 1, none⟩ (.int .u64 (sd du))) hb mb xb sv (.slice (some ⟨g, 0, none⟩) ln cap) A7 (L.set ki { ek with due := sd du }) last) := by
              obtain ⟨h1, h2, h3, h4⟩ := H7.out
              have hr8 := due_ref (HX7.out.1.frNo (Fr.drew No _)) HX7.out.2 HK.out.1 (sd_bd bd)
              rw [← HY.out] at hr8
              have hiv : OwnR xb (.slice (some ⟨g, 0, none⟩) L.length cap) = OwnR xb (.slice (some ⟨g, 0, none⟩) ln cap) := by rw [HX7.out.2]
              refine HD.out.1.step h1 h3 h4 (fun k hk => .inl hk) hr8 (Fr.trans (b := y) ?_ (Fr.setCell _ _ ⟨g, ki * 3 + 1, none⟩ _ (Or.inr rfl))) (fun k hk => .inl hk) (h2.trans (due_perm HD.out.1.perm HK.out.2 HK.out.1)) ?_ (HD.out.1.ref1 h4)
              · rw [HY.out]; exact Fr.drew _ _
              · intro e he
                obtain ⟨q, hq⟩ := mem_get he
                rw [set_get HK.out.1] at hq
                split at hq
                · cases hq; exact HD.out.1.ids ek (List.mem_of_getElem? HK.out.1)
                · exact HD.out.1.ids e (List.mem_of_getElem? hq)
            revert HD8
            generalize y.setCell ⟨g, ki * 3 + 1, none⟩ (.int .u64 (sd du)) = w8
            intro HD8
            clear y0 y1 yf y2
            refine (heapOrdered_any hb mb xb _ _ _ _ _ _ _ HD8.out.live.heap HD8.out.ref HD8.out.perm HD8.out.live.ord).mono ?_
            rintro e w9 ⟨rfl, hf9⟩
            have HD9 := Lib.hid (HD8.out.keep hf9)
            clear hf9
            go_wp2_with fail
            go_roundg (60 - i)
            case measure => exact hig
            case rel => exact ⟨i + 1, sv, _, A7, L.set ki { ek with due := sd du }, last, by go_num, by omega, by omega, by omega, HD9.out, by have := HD.out.2; simp; omega⟩
          · have q2 : ¬ ((m : Int) < 7) := by omega
            have q3 : (m : Int) < 9 := by omega
            go_wp2_with fail
            refine (I.remove_hit hb mb sv A last kj ek _ HD.out.1.live.heap HD.out.1.live.ord HK.out.2).mono ?_
            rintro e w7 ⟨rfl, sv7, A7, h1, h2, h3, h4, h5⟩
            have H7 := Lib.hid (And.intro h1 (And.intro h2 (And.intro h3 (And.intro h4 h5))))
            clear h1 h2 h3 h4 h5 o0 o2
            go_wp2_with fail
            refine (removeAt_ref xb iv L last ki ek _ (HD.out.1.ref1 H7.out.2.2.2.1) HK.out.1).mono ?_
            rintro e w8 ⟨rfl, iv8, h6, h7, h8⟩
            have HD8 : Hid (Duo w w8 hb mb xb sv7 iv8 A7 (L.eraseIdx ki) last) := by
              obtain ⟨h1, h2, h3, h4, h5⟩ := H7.out
              refine HD.out.1.step h1 h3 h4 (fun k hk => .inl (by rw [← h5]; exact hk)) h6 h7 (fun k hk => .inr (Nat.le_trans h4.size (h8 k hk))) ?_ (fun e he => HD.out.1.ids e (List.mem_of_mem_eraseIdx he)) (HD.out.1.ref1 h4)
              exact (List.perm_cons ek).1 (h2.trans (HD.out.1.perm.trans (erase_perm HK.out.1).symm))
            clear h6 h7 h8
            go_wp2_with fail
            refine (heapOrdered_any hb mb xb _ _ _ _ _ _ _ HD8.out.live.heap HD8.out.ref HD8.out.perm HD8.out.live.ord).mono ?_
            rintro e w9 ⟨rfl, hf9⟩
            have HD9 := Lib.hid (HD8.out.keep hf9)
            clear hf9
            go_wp2_with fail
            go_roundg (60 - i)
            case measure => exact hig
            case rel => exact ⟨i + 1, sv7, iv8, A7, L.eraseIdx ki, last, by go_num, by omega, by omega, by omega, HD9.out, by have := HD.out.2; have := (List.eraseIdx_sublist L ki).length_le; omega⟩
    · have q1 : ¬ ((i : Int) < (len0 : Int)) ∨ ((i : Int) < (len0 : Int) ∧ ¬ ((i : Int) < 60)) := by omega
      clear hin
      rcases q1 with q1 | ⟨q1, q2⟩
      · go_wp2_with fail
        refine (awake_any _).mono ?_
        rintro e w3 ⟨rfl, hf⟩
        have L3 := Lib.hid (HR.out.1.live.keep hf)
        clear hf
        go_wp2_with fail
        go_ret
        exact ⟨rfl, L3.out.below⟩
      · go_wp2_with fail
        refine (awake_any _).mono ?_
        rintro e w3 ⟨rfl, hf⟩
        have L3 := Lib.hid (HR.out.1.live.keep hf)
        clear hf
        go_wp2_with fail
        go_ret
        exact ⟨rfl, L3.out.below⟩

set_option maxRecDepth 100000 in
theorem lifted (os : Os) (started : os.Started) (H : Type) (enc : TypeId × Value → H) :
    ReturnsInHanded {} Try.checked os 4 .any (Rows.heapOrderInvariantSpec.pre6 enc Try.prog Try.f4 Rows.heapOrderInvariantRow.domain false) (Rows.heapOrderInvariantSpec.post enc Try.prog Try.f4 false true false false) := by
  refine returnsInHanded_of_change (C := Try.checked) own started (by kernel_rfl) Try.func4
    (ChangeSpec.witness6 (enc := enc) (C := Try.checked) false ⟨#[], #[.slice none 0 0], []⟩ 8 (by kernel_rfl) (by kernel_rfl) (by kernel_rfl) (by kernel_rfl)) ?_
  intro W base args ds gs before hval0 hW hcnd _
  have hval : ∀ (j : Nat) t v, Try.f4.params[j]? = some t → args[j]? = some v → Value.okWide Try.prog W .any base t v := hval0
  have hW' := hW
  obtain ⟨p, q, hA0, hV, rfl, hfz, hnd⟩ := hW
  have hA : DataW.TrodAll enc Try.prog W 0 (fun _ => true) true Try.f4.params.toList args.toList ds p := hA0
  rw [Try.params4] at hA hval
  obtain ⟨v0, vs0, d0, ds0, p0, q0, hargs, rfl, rfl, h0, r0⟩ := trodAll_cons hA
  obtain ⟨rfl, rfl, rfl⟩ := trodAll_nil r0
  obtain rfl : args = #[v0] := by cases args; simp_all
  obtain ⟨rfl, rfl⟩ := trodVars_none hV
  obtain ⟨a0, len0, cap0, rfl⟩ := okWide_slice Try.underlying22 (hval 0 22 v0 rfl rfl)
  have k0 := h0
  have lt0 : ∀ x ∈ p0, x.block < W.heap.size := by obtain ⟨m, hm⟩ := k0; exact DataW.trod_lt m _ _ _ hm
  have w0 : OpRow W a0 len0 := by
    obtain ⟨fuel, hf⟩ := h0
    exact ops_open hf
  clear hA0 hval0
  refine (walk a0 len0 cap0 W w0).mono fun e W' ⟨he, bel⟩ => ?_
  subst he
  exact ⟨_, rfl, _, _, _, [], _, [], hW', trodAll_mk1 (shut_bool Try.underlying4 _), (trodAll_cons_mk (Below.trod laidOut (by kernel_rfl) (of_decide_eq_true (by kernel_rfl)) k0 bel lt0) trodAll_mk0), rfl, bel.frame _, fun h => by cases h⟩

theorem over : Rows.heapOrderInvariantRow.holds Try.pinned (OpenSpec.ofChange Rows.heapOrderInvariantSpec) :=
  OpenClaim.holds_of_wide 4 Try.f4 rfl rfl rfl rfl rfl rfl rfl ⟨rfl, rfl, rfl, rfl, rfl⟩ rfl rfl rfl rfl rfl (by kernel_rfl) Try.func4 (by kernel_rfl)
    (of_decide_eq_true (by kernel_rfl)) (by unfold Func.isWrapper; first | (rw [if_pos (by decide +kernel)]; kernel_rfl) | (rw [if_neg (by decide +kernel)]; exact ⟨rfl, rfl⟩))
    (fun os started H enc _ => lifted os started H enc)

end Go.Proofs.Ytbobokhlcbojkaa.heapOrderInvariant

namespace Go.Proofs.Ytbobokhlcbojkaa
/-- The statement. -/
theorem heapOrderInvariant_holds : Rows.HeapOrderInvariantSaid := heapOrderInvariant.over
#print axioms heapOrderInvariant_holds
end Go.Proofs.Ytbobokhlcbojkaa
