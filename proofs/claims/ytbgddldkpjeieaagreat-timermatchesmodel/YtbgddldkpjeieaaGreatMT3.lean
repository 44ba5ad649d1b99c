/-
  CONTRACT of family of the timers at one value type, over this seat's translation: the handles of a timer and of all below it, in ascending order, in a row of the call's own.
  Conditions: the timers lie in memory as Tim says; the timer is one of them.
-/
import Derived.Test.YtbgddldkpjeieaaGreatMT1
import Derived.Test.YtbgddldkpjeieaaGreatFam
import Derived.Deep.RegionHeld3
namespace Go.Proofs.YtbgddldkpjeieaaGreat.M
open Go.ChangeShapes Go.WideShapes Go.ChangeAt Go.RowKit Go.Maps
set_option linter.unusedVariables false

set_option maxHeartbeats 4000000 in
set_option maxRecDepth 100000 in
theorem family_any (S : Nat → Prop) (tb : Nat) (L : List Rec) (last : Int) (q : Rec) (w : World) (h : TI S w tb L last) (hq : q ∈ L) :
    Calls Tryz.prog 65 #[.pointer (some ⟨tb, 0, none⟩), .int .i64 q.id] w fun e w' => ∃ g cap, e = .returned (.slice (some ⟨g, 0, none⟩) (fam L q.id).length cap) ∧ FamRow w w' g cap L q.id ∧ Fr No w w' := by
  obtain ⟨hb, mb, sv, A, blk, cm, hX, hM⟩ := h
  have hq1 := (hX.wood.id q hq).1
  have htop := hX.top
  have HX := Lib.hid (And.intro hX hq)
  obtain ⟨i0, hi0, hz0, hz1, hz2⟩ := info_parts info3
  clear hX hM hq
  go_enter Tryz.func65, Tryz.ntmps65
  go_wp2_with fail
  go_loopg [5, 6] 1001 (fun g s5 s6 wr => ∃ (xs : List Int) (i n rb cap : Nat), s5 = .slice (some ⟨rb, 0, none⟩) n cap ∧ s6 = .int .i64 i ∧ 1000 - i < g ∧ i ≤ n ∧ n ≤ 1000 ∧ Hid (xs.length = n ∧ Fr No w wr ∧ wr.ownsRow w.heap.size 3 1 (.slice (some ⟨rb, 0, none⟩) n cap) n (xs.map (Value.int .i64)) ∧ Bfs L q.id xs i))
  case atStart =>
    refine ⟨[q.id], 0, 1, w.heap.size, 1, rfl, rfl, by omega, by omega, by omega, rfl, Fr.alloc No w _, ?_, Bfs.start HX.out.2⟩
    exact ⟨rfl, .inr ⟨w.heap.size, 1, #[.int .i64 q.id], rfl, Nat.le_refl _, heap_alloc_new w _, by omega, by unfold maxLen; omega, rfl, rfl⟩⟩
  case round =>
    obtain ⟨xs, i, n, rb, cap, rfl, rfl, hg, hin, hn, HR⟩ := hrel
    by_cases hi : i < n
    · have p1 : (i : Int) < (n : Int) := by omega
      have p0 : (0 : Int) ≤ (i : Int) := by omega
      obtain ⟨y, hy⟩ : ∃ y, xs[i]? = some y := ⟨xs[i]'(by rw [HR.out.1]; exact hi), List.getElem?_eq_getElem _⟩
      obtain ⟨⟨r, hr, rfl⟩, -⟩ := HR.out.2.2.2.mem y (List.mem_of_getElem? hy)
      have hXr := HX.out.1.frNo HR.out.2.1
      have c0 := hXr.hcell
      have e0 : wr.cell? ⟨rb, i, none⟩ = some (.int .i64 r.id) := row_cell HR.out.2.2.1 hy
      obtain ⟨j, hj⟩ := HX.out.1.get hr
      have HXr := Lib.hid hXr
      have HY := Lib.hid (And.intro hy (And.intro hr hj))
      clear hXr hy hr hj
      go_wp2_with fail
      go_region_held3 (fun w' => w'.cell? ⟨tb, 0, none⟩ = some (.pointer (some ⟨hb, 0, none⟩)) ∧ w'.cell? ⟨rb, i, none⟩ = some (.int .i64 r.id)) (go_keep) (first | (go_at_call 53; refine (get_hit hb mb sv A last j _ _ (HXr.out.heap.frNo (Fr.drew No _)) HY.out.2.2).mono ?_; rintro e w5 ⟨rfl, hf5⟩; have hX5 := (HXr.out.frNo (Fr.drew No _)).frNo hf5; have c5 := hX5.hcell; have hR5 := row_keep1 HR.out.2.2.1 ((Fr.drew No wr).trans hf5); have e5 : w5.cell? ⟨rb, i, none⟩ = some (.int .i64 r.id) := row_cell hR5 HY.out.1; have n5 := (hX5.ncell HY.out.2.1).2; have H5 := Lib.hid (And.intro hX5 (And.intro hR5 ((HR.out.2.1.trans (Fr.drew No _)).trans hf5))); clear hX5 hR5 hf5; simp only [entOf]))
      all_goals (
        clear c0 e0 c5 e5
        have hkids := H5.out.1.kids r HY.out.2.1
        cases hcm : cm r.id with
        | none =>
          rw [hcm] at n5 hkids
          have HK := Lib.hid hkids
          clear hkids
          have hrg := run_range_nilMap (P := Tryz.prog) w5 51 3 4 Tryz.underlying51
          have hnx : ∀ ty, (Instr.next (.pointer (some ⟨w5.heap.size, 0, none⟩)) false ty).run Tryz.prog (w5.alloc (.mapIter none 0 #[] 0)) = _ := fun ty => run_next_nilMap w5 ty 0 0 #[]
          go_wp2_with fail
          refine wp_loop_rounds 1 ?_
          rw [rounds_succ]
          go_wp2_with fail
          go_roundg (1000 - i)
          case measure => omega
          case rel =>
            refine ⟨xs, i + 1, n, rb, cap, rfl, by go_num, by omega, by omega, hn, HR.out.1, H5.out.2.2.trans (Fr.alloc No _ _), row_keep1 H5.out.2.1 (Fr.alloc No _ _), ?_⟩
            have := Bfs.next HX.out.1.wood hq1 (ys := []) HR.out.2.2.2 HY.out.1 List.nodup_nil (fun x => by simp; intro z hz e1 e2; exact HK.out z.id ⟨z, hz, rfl, e2⟩)
            simpa using this
        | some c =>
          rw [hcm] at n5 hkids
          obtain ⟨hcb, m, D, hml, hown, hD⟩ := hkids
          have HOW := Lib.hid (And.intro hown hD)
          clear hown hD hml hcb
          go_wp2_with (first
            | (at_range; refine wpList_range_own _ rfl _ 51 rfl 3 4 law3 Tryz.underlying51 _ c m D rfl HOW.out.1 ?_; intro w6 hrg6 hg6 hs6)
            | go_in)
          go_frame
          have HRG : Hid (w6.ranges Tryz.prog 3 (plainElem Tryz.prog 4) c w5.heap.size m D (Maps.has D) (Maps.size D) ∧ Fr No w w6 ∧ w6.ownsRow w.heap.size 3 1 (.slice (some ⟨rb, 0, none⟩) n cap) n (xs.map (Value.int .i64))) :=
            ⟨hrg6, H5.out.2.2.trans (Fr.grown hg6 (fun k hk => by cases hk)), row_keep1 H5.out.2.1 (Fr.grown hg6 (fun k hk => by cases hk))⟩
          clear hrg6 hg6 hs6 n5
          go_loopg [5] (Maps.size D + 1) (fun g s5 wr2 => ∃ (ys : List Int) (left : Lit → Bool) (cnt n2 rb2 cap2 : Nat), s5 = .slice (some ⟨rb2, 0, none⟩) n2 cap2 ∧ cnt < g ∧ n2 ≤ 1000 ∧ n ≤ n2 ∧ Hid (xs.length + ys.length = n2 ∧ Fr No w wr2 ∧ wr2.ownsRow w.heap.size 3 1 (.slice (some ⟨rb2, 0, none⟩) n2 cap2) n2 ((xs ++ ys).map (Value.int .i64)) ∧ wr2.ranges Tryz.prog 3 (plainElem Tryz.prog 4) c w5.heap.size m D left cnt ∧ ys.Nodup ∧ ∀ x, x ∈ ys ↔ Maps.has D (key x) = true ∧ left (key x) = false))
          case atStart =>
            refine ⟨[], _, _, n, rb, cap, rfl, by omega, hn, Nat.le_refl _, by simpa using HR.out.1, HRG.out.2.1, by simpa using HRG.out.2.2, HRG.out.1, List.nodup_nil, fun x => by simp⟩
          case round =>
            obtain ⟨ys, left, cnt, n2, rb2, cap2, rfl, hcg, hn2, hnn, H2⟩ := hrel
            clear HRG
            go_wp2_with (first
              | (at_next; refine wpList_next_ranges _ rfl _ rfl 3 law3 _ (Value.int .i64) (fun v : Value => v) invK3 (fun v _ _ => ⟨v, rfl⟩) c w5.heap.size m D left cnt rfl H2.out.2.2.2.1 ?_ ?_)
              | go_in)
            · intro hc0 hl0
              go_wp2_with fail
              go_roundg (1000 - i)
              case measure => omega
              case rel =>
                obtain ⟨h1, h2, h3, h4, h5, h6⟩ := H2.out
                refine ⟨xs ++ ys, i + 1, n2, rb2, cap2, rfl, by go_num, by omega, by omega, hn2, by simp; omega, h2, h3, ?_⟩
                exact Bfs.next HX.out.1.wood hq1 HR.out.2.2.2 HY.out.1 h5 (fun x => by rw [h6 x]; simp only [hl0, and_true]; exact HOW.out.2 x)
            · intro x cb kl ya yb w7 cnt7 hkx hlk hRy hat hrg7 hlt7 hg7 hs7 hen
              have hkl := key_of_int hkx
              subst hkl
              have hrow7 : Hid (w7.ownsRow w.heap.size 3 1 (.slice (some ⟨rb2, 0, none⟩) n2 cap2) n2 ((xs ++ ys).map (Value.int .i64))) := row_keep2 H2.out.2.2.1 hg7 (row_ne_iter H2.out.2.2.1 H2.out.2.2.2.1).symm
              have hsz7 : w.heap.size ≤ w7.heap.size := by rw [hs7]; exact H2.out.2.1.size
              have H7 : Hid (Maps.has D (key x) = true ∧ left (key x) = true ∧ w7.ranges Tryz.prog 3 (plainElem Tryz.prog 4) c w5.heap.size m D (fun z => left z && !z.sameKey (key x)) cnt7 ∧ Fr (fun k => w.heap.size ≤ k) w w7) :=
                ⟨has_true_of_atKey hat, hlk, hrg7, (H2.out.2.1.no).trans (Fr.grown hg7 fun k hk => by cases hk; exact H5.out.2.2.size)⟩
              have hbnd : n2 < 1000 := by
                obtain ⟨h1, h2, h3, h4, h5, h6⟩ := H2.out
                have hx : x ∉ ys := fun hx => by have := ((h6 x).1 hx).2; rw [H7.out.2.1] at this; cases this
                have := HR.out.2.2.2.room HX.out.1.wood hq1 HY.out.1 (ys := ys ++ [x]) (List.nodup_append.2 ⟨h5, by simp, fun a ha b hb => by simp at hb; subst hb; exact fun e => hx (e ▸ ha)⟩) (fun z hz => by
                  rcases List.mem_append.1 hz with hz | hz
                  · exact (HOW.out.2 z).1 ((h6 z).1 hz).1
                  · simp at hz; subst hz; exact (HOW.out.2 z).1 H7.out.1)
                simp at this
                omega
              clear hkx hlk hRy hat hrg7 hg7 hs7
              go_wp2_with (first
                | (at_builtin; refine wpList_append_own _ rfl (.tmp 41) (.tmp 43) 64 rfl w.heap.size 3 i0 (.int .i64 0) 1 8 Tryz.underlying64 hi0 hz0 hz1 hz2 rfl (by decide) (.slice (some ⟨rb2, 0, none⟩) n2 cap2) n2 _ rfl (hrow7.out.alloc _) ⟨w7.heap.size, 0, none⟩ 1 1 [.int .i64 x] rfl rfl (one_cell w7 x) (one_one x) (by unfold maxLen; omega) (by omega) (by simp; omega) ?_; intro v8 w8 hown8 hgrow8 _)
                | go_in)
              obtain ⟨g8, cap8, rfl⟩ : ∃ g8 cap8, v8 = .slice (some ⟨g8, 0, none⟩) (n2 + 1) cap8 := by
                rcases hown8.2 with ⟨_, h0⟩ | ⟨g8, cap8, _, hv, _⟩
                · omega
                · exact ⟨g8, cap8, hv⟩
              have H8 := Lib.hid (And.intro hown8 hgrow8)
              clear hown8 hgrow8
              go_wp2_with fail
              go_roundg cnt
              case measure => omega
              case rel =>
                obtain ⟨h1, h2, h3, h4, h5, h6⟩ := H2.out
                obtain ⟨hh, hlx, hrg7, hF7⟩ := H7.out
                obtain ⟨hown8, hgrow8⟩ := H8.out
                have hx : x ∉ ys := fun hx => by have := ((h6 x).1 hx).2; rw [hlx] at this; cases this
                refine ⟨ys ++ [x], _, cnt7, n2 + 1, g8, cap8, rfl, by omega, by omega, by omega, by simp; omega, ?_, by simpa using hown8, (hrg7.alloc _).kept hgrow8 ?_ ?_, List.nodup_append.2 ⟨h5, by simp, fun a ha b hb => by simp at hb; subst hb; exact fun e => hx (e ▸ ha)⟩, ?_⟩
                · exact fr_base ((hF7.trans (Fr.alloc _ _ _)).trans (Fr.grown hgrow8 fun k hk => by simp [Value.ownBlock] at hk; subst hk; exact (h3.lt _ rfl).1))
                · exact row_ne_low hrow7.out (Nat.lt_of_lt_of_le (show c < w.heap.size from HX.out.1.mine_lt (.inr (.inr (.inr ⟨r, HY.out.2.1, hcm⟩)))) (Nat.le_refl _))
                · exact row_ne_iter hrow7.out hrg7
                · intro z
                  rw [List.mem_append, h6 z]
                  by_cases e : z = x
                  · subst e
                    simp [hh, WideAt.sameKey_self (isKey z)]
                  · simp [e, sameKey_ne (key_ne e)])
    · have hin' : i = n := by omega
      subst hin'
      have hsz : xs.length = i := HR.out.1
      go_wp2_with fail
      refine (sort_row w.heap.size rb cap xs i _ HR.out.1 HR.out.2.2.1 hn).mono ?_
      rintro e w5 ⟨rfl, hrow5, hf5⟩
      have H5 := Lib.hid (And.intro hrow5 hf5)
      clear hrow5 hf5
      go_wp2_with fail
      go_ret
      obtain ⟨h1, h2, h3, h4⟩ := HR.out
      have hp := h4.done HX.out.1.wood h1.symm
      have hlen : (fam L q.id).length = i := by have := hp.length_eq; simp at this; omega
      refine ⟨rb, cap, by rw [hlen]; rfl, ?_, ?_⟩
      · unfold FamRow
        rw [hlen, ← sort_fam HX.out.1.wood hp]
        exact H5.out.1
      · exact fr_base ((h2.no).trans (H5.out.2.mono fun k _ hk => by rw [show k = rb from hk]; exact (h3.lt _ rfl).1))

end Go.Proofs.YtbgddldkpjeieaaGreat.M
