/-
  The law TimerCancelsSubtree returns true for every list of numbers and every number, and changes nothing that was in memory before.
  Conditions: none beyond the row's own.
-/
import Derived.Test.YtbgddldkpjeieaaSub
import Derived.WalkKit
import Derived.ProofKit
import Derived.OpenShut
import Derived.ShutString
import Derived.ChangeOld
import Derived.Below
namespace Go.Proofs.Ytbgddldkpjeieaa.timerCancelsSubtree
open Go.ChangeShapes Go.WideShapes Go.ChangeAt Go.RowKit
open Go.ChangeMaps (open_string shut_string)
set_option linter.unusedVariables false

theorem own : ownKnob Try.prog.godebug = none := by kernel_rfl
theorem laidOut : laidOutB Try.prog = true := by kernel_rfl

set_option maxHeartbeats 8000000 in
set_option maxRecDepth 100000 in
theorem walk (a0 : Option Addr) (len0 cap0 : Nat) (z0 : List Int) (a1 : Int) (w : World) (w0 : IsRow .i64 w a0 len0 cap0 z0) (w1 : (Lit.int .i64 a1).wf = true) :
    Calls Try.prog 5 #[.slice a0 len0 cap0, .int .i64 a1] w fun e w' => e = .returned (.bool true) ∧ Below w.heap.size w w' := by
  obtain ⟨z, hz⟩ : ∃ z : Nat → Int, z = fun i => z0.getD i 0 := ⟨_, rfl⟩
  have HI : Hid (InRow .i64 w a0 len0 z) := by rw [hz]; exact w0.row
  have hlen := HI.out.1
  have b1 := bounds_i64 w1
  have HW1 := Lib.hid w1
  clear hz w0 w1
  obtain ⟨S0, hS0⟩ : ∃ S : Nat → Prop, S = fun k => w.heap.size ≤ k := ⟨_, rfl⟩
  have HS0 : Hid (∀ k, w.heap.size ≤ k → S0 k) := fun k hk => by rw [hS0]; exact hk
  obtain ⟨n, hn1, hn2, hn3⟩ : ∃ n : Nat, n ≤ len0 ∧ n ≤ 40 ∧ (n : Int) = min (len0 : Int) 40 := ⟨min len0 40, by omega, by omega, by omega⟩
  have hmin : min (len0 : Int) 40 = (n : Int) := hn3.symm
  clear hn3
  obtain ⟨i2, hi2, hz2, hs2, hb2⟩ := info_parts info3
  have hmk : ∀ w : World, (Instr.makeSlice 33 (.int .i64 ((n : Int) + 1)) (.int .i64 ((n : Int) + 1))).run Try.prog w = .ok (.slice (some ⟨w.heap.size, 0, none⟩) (n + 1) (n + 1)) (w.alloc (.cells (madeCells #[.int .i64 0] (n + 1)) 3)) := by
    intro w
    have := run_make (P := Try.prog) w 33 3 i2 _ Try.underlying33 hi2 hz2 .i64 .i64 ((n + 1 : Nat) : Int) ((n + 1 : Nat) : Int) (by omega) (Int.le_refl _) (by rw [hb2]; omega) (by omega)
    simpa [hs2, Value.cells] using this
  clear hi2 hz2 hs2 hb2
  go_enter Try.func5, Try.ntmps5
  go_wp2_with fail
  refine (N.tnew_any S0 _ HS0.out).mono ?_
  rintro e w1 ⟨tb, rfl, htb, hT1, hf1⟩
  obtain ⟨ob, hob⟩ : ∃ ob, ob = w1.heap.size := ⟨_, rfl⟩
  obtain ⟨S, hS⟩ : ∃ S : Nat → Prop, S = fun k => w.heap.size ≤ k ∧ k ≠ ob := ⟨_, rfl⟩
  have hT1' : N.TI S w1 tb [] 0 := hT1.mono fun k hk h => by rw [hS]; rw [hS0] at h; exact ⟨h, by omega⟩
  have HS : Hid ((∀ w' : World, w.heap.size ≤ w'.heap.size → ob < w'.heap.size → ∀ k, w'.heap.size ≤ k → S k) ∧ (∀ j, S j → w.heap.size ≤ j) ∧ ¬ S ob ∧ w.heap.size ≤ ob) :=
    ⟨fun w' h h2 k hk => by rw [hS]; exact ⟨Nat.le_trans h hk, by omega⟩, fun j hj => by rw [hS] at hj; exact hj.1, by rw [hS]; simp, by rw [hob]; exact hf1.size⟩
  have H1 := Lib.hid (And.intro hT1' hf1)
  clear hT1 hT1' hf1 hS hS0 HS0
  have HOB := Lib.hid hob
  clear hob
  go_wp2_with fail
  have H2 : Hid (N.TI S (w1.alloc (.cells (madeCells #[.int .i64 0] (n + 1)) 3)) tb [] 0 ∧ Fr (fun k => w.heap.size ≤ k) w (w1.alloc (.cells (madeCells #[.int .i64 0] (n + 1)) 3)) ∧ OvAt (w1.alloc (.cells (madeCells #[.int .i64 0] (n + 1)) 3)) ob (List.replicate (n + 1) 0)) :=
    ⟨H1.out.1.frNo (Fr.alloc No _ _), (H1.out.2.trans (Fr.alloc No _ _)).no, _, by rw [HOB.out]; exact heap_alloc_new w1 _, by rw [toList_madeCells_one]; simp⟩
  rw [← HOB.out]
  revert H2
  generalize w1.alloc (.cells (madeCells #[.int .i64 0] (n + 1)) 3) = w2
  intro H2
  clear H1 HOB hmk
  go_loopg [8] (n + 1) (fun g s8 wr => ∃ (i : Nat) (L : List Rec) (xs : List Int), s8 = .int .i64 i ∧ i ≤ n ∧ n - i < g ∧ Hid (N.TI S wr tb L i ∧ Fr (fun k => w.heap.size ≤ k) w wr ∧ OvAt wr ob xs ∧ Grove L xs i n))
  case atStart => exact ⟨0, [], _, by go_num, by omega, by omega, H2.out.1, H2.out.2.1, H2.out.2.2, Grove.nil n⟩
  case round =>
    obtain ⟨i, L, xs, rfl, hin, hig, HR⟩ := hrel
    clear H2
    by_cases hi : i < n
    · obtain ⟨b, off, rfl, c1⟩ := HI.out.cell HR.out.2.1 (fun j hj => hj) (show i < len0 by omega)
      have bz := bounds_i64 (HI.out.2 i (by omega)).2
      have p1 : (0 : Int) ≤ (i : Int) := by omega
      have p2 : (i : Int) < (len0 : Int) := by omega
      have p3 : (i : Int) < (n : Int) := by omega
      obtain ⟨x0, hx0⟩ : ∃ x0, xs[i + 1]? = some x0 := ⟨xs[i + 1]'(by have := HR.out.2.2.2.xlen; omega), List.getElem?_eq_getElem _⟩
      have o1 : wr.cell? ⟨ob, i + 1, none⟩ = some (.int .i64 x0) := HR.out.2.2.1.cell hx0
      have o2 := HR.out.2.2.1.frozen (i + 1)
      have p4 : (i : Int) + 1 < (n : Int) + 1 := by omega
      have p5 : (0 : Int) ≤ (i : Int) + 1 := by omega
      have p6 : ((i : Int) + 1).toNat = i + 1 := by omega
      have p7 : IntKind.u64.wrap (i : Int) = (i : Int) := by simp [IntKind.wrap, IntKind.bits, IntKind.signed]; omega
      clear hx0
      go_wp2_with fail
      refine (mod_at (z i) ((i : Int) + 1) (i + 1) _ (by omega) (by omega) (by omega) bz).mono ?_
      rintro e w3 ⟨r, hr, rfl, hw3⟩
      rw [← hw3] at o1 o2 HR
      clear hw3 c1
      have H3 : Hid (N.TI S (w3.setCell ⟨ob, i + 1, none⟩ (.int .i64 r)) tb L i ∧ Fr (fun k => w.heap.size ≤ k) w (w3.setCell ⟨ob, i + 1, none⟩ (.int .i64 r)) ∧ OvAt (w3.setCell ⟨ob, i + 1, none⟩ (.int .i64 r)) ob (xs.set (i + 1) r)) :=
        ⟨HR.out.1.other (Fr.setCell (fun k => k = ob) _ ⟨ob, i + 1, none⟩ _ rfl) (fun k hk e => HS.out.2.2.1 (e ▸ hk)), HR.out.2.1.trans (Fr.setCell _ _ _ _ HS.out.2.2.2), HR.out.2.2.1.set (i + 1) r⟩
      have HX := Lib.hid (And.intro HR.out.2.2.2 HR.out.1.wood)
      clear HR
      go_wp2_with fail
      refine (N.start_at S tb L i i r 0 _ H3.out.1 (by
        by_cases h0 : r = 0
        · exact .inl (by omega)
        · exact .inr (HX.out.1.has r (by omega) (by omega))) (HS.out.1 _ H3.out.2.1.size H3.out.2.2.lt) (by omega) (by omega)).mono ?_
      rintro e w4 ⟨rfl, hT4, hf4⟩
      have H4 := Lib.hid (And.intro hT4 (And.intro (H3.out.2.1.trans (hf4.mono fun k _ hk => HS.out.2.1 k hk)) (And.intro (H3.out.2.2.keep (hf4.block ob H3.out.2.2.lt HS.out.2.2.1)) (HX.out.1.start HX.out.2 rfl hi i r (.int .i64 0)))))
      clear hT4 hf4 o1 o2
      go_wp2_with fail
      go_roundg (n - i)
      case measure => omega
      case rel => exact ⟨i + 1, _, _, by go_num, by omega, by omega, by simpa using H4.out.1, H4.out.2.1, H4.out.2.2.1, H4.out.2.2.2⟩
    · obtain rfl : i = n := by omega
      have p2 : ¬ ((i : Int) < (i : Int)) := by omega
      by_cases hn0 : i = 0
      · subst hn0
        have hL0 : Hid (L = []) := List.length_eq_zero_iff.1 HR.out.2.2.2.len
        go_wp2_with fail
        refine (awake_any _).mono ?_
        rintro e w4 ⟨rfl, hf4⟩
        have H4 := Lib.hid (And.intro (HR.out.1.frNo hf4) (HR.out.2.1.trans hf4.no))
        clear hf4
        go_wp2_with fail
        refine (N.cancel_miss S tb L _ a1 _ H4.out.1 HW1.out (by rw [hL0.out]; simp)).mono ?_
        rintro e w5 ⟨rfl, rfl⟩
        go_wp2_with fail
        go_ret
        exact ⟨rfl, H4.out.2.below (fun k hk => hk) (Nat.le_refl _)⟩
      · have q0 : ¬ ((i : Int) = 0) := by omega
        go_wp2_with fail
        refine (mod_any a1 i _ (by omega) (by omega) b1).mono ?_
        rintro e w4 ⟨m, hm, rfl, hw4⟩
        rw [← hw4] at HR
        clear hw4
        obtain ⟨k, hk⟩ : ∃ k : Int, 1 + (m : Int) = k := ⟨_, rfl⟩
        have hk1 : 1 ≤ k ∧ k ≤ i := by omega
        have hkL : Hid (∃ q ∈ L, q.id = k) := by
          obtain ⟨q, hq, he⟩ := HR.out.2.2.2.has (m + 1) (by omega) (by omega)
          exact ⟨q, hq, by omega⟩
        have wk : Hid ((Lit.int .i64 k).wf = true) := WalkArith.wf_i64 (by omega)
        go_wp2_with fail
        refine (N.desc_at S tb L i k _ HR.out.1 hkL.out).mono ?_
        rintro e w5 ⟨a5, n5, cap5, hn5, rfl, hf5⟩
        have H5 := Lib.hid (And.intro (HR.out.1.frNo hf5) (And.intro (HR.out.2.1.trans hf5.no) (HR.out.2.2.1.keep (hf5.block ob HR.out.2.2.1.lt (fun h => h)))))
        clear hf5
        go_wp2_with fail
        refine (N.cancel_at S tb L i k _ H5.out.1 hkL.out).mono ?_
        rintro e w6 ⟨rfl, hT6, hf6⟩
        have H6 := Lib.hid (And.intro hT6 (And.intro (H5.out.2.1.trans (hf6.mono fun k _ hk => HS.out.2.1 k hk)) (H5.out.2.2.keep (hf6.block ob H5.out.2.2.lt HS.out.2.2.1))))
        clear hT6 hf6
        have HG := Lib.hid (And.intro HR.out.2.2.2 HR.out.1.wood)
        clear HR H5
        have hfl : Hid ((fam L k).length = n5 + 1 ∧ (rest L k).length + (n5 + 1) = i) := ⟨hn5.symm, by have h1 := fam_len L k; have h2 := HG.out.1.len; omega⟩
        have hfi : (((fam L k).length : Nat) : Int) = (n5 : Int) + 1 := by have := hfl.out.1; omega
        rw [hfi]
        clear hn5 hfi hk hm
        go_wp2_with fail
        go_loopg [14] (i + 1) (fun g s14 wr => ∃ (t : Nat), s14 = .int .i64 ((t : Int) + 1) ∧ t ≤ i ∧ i - t < g ∧ Hid (N.TI S wr tb (rest L k) i ∧ Fr (fun k => w.heap.size ≤ k) w wr ∧ OvAt wr ob xs))
        case atStart => exact ⟨0, by go_num, by omega, by omega, H6.out⟩
        case round =>
          obtain ⟨t, rfl, hti, htg, HT⟩ := hrel
          clear H6
          by_cases ht : t < i
          · have q1 : (t : Int) + 1 ≤ (i : Int) := by omega
            go_wp2_with fail
            rename World => wo
            go_loopg [15, 16] (t + 2) (fun g s15 s16 wr => ∃ (j : Nat) (b : Bool), s15 = .bool b ∧ s16 = .int .i64 j ∧ j < g ∧ j ≤ t + 1 ∧ wr = wo ∧ Hid (Under L k ((t : Int) + 1) ↔ (b = true ∨ (0 < j ∧ Under L k (j : Int)))))
            case atStart => exact ⟨t + 1, false, by go_num, by go_num, by omega, by omega, rfl, Lib.hid (by simp)⟩
            case round =>
              obtain ⟨j, b, rfl, rfl, hjg, hjt, rfl, HU⟩ := hrel
              by_cases hj : j = 0
              · subst hj
                have hb : Hid (b = true ↔ Under L k ((t : Int) + 1)) := by have := HU.out; simp at this; exact this.symm
                go_wp2_with fail
                refine (N.deadline_either S tb (rest L k) i ((t : Int) + 1) _ HT.out.1 (WalkArith.wf_i64 (by omega))).mono ?_
                rintro e w7 ⟨d, ok, hok, rfl, hf7⟩
                have hne : ok = !b := by
                  obtain ⟨q, hq, he⟩ := HG.out.1.has (t + 1) (by omega) (by omega)
                  have he' : q.id = (t : Int) + 1 := by omega
                  by_cases hu : Under L k ((t : Int) + 1)
                  · rw [hb.out.2 hu]
                    cases ok with
                    | false => rfl
                    | true =>
                      obtain ⟨r, hr, hre⟩ := hok.1 rfl
                      exact absurd (hre ▸ hu) (mem_rest.1 hr).2
                  · have hbf : b = false := by
                      cases b with
                      | false => rfl
                      | true => exact absurd (hb.out.1 rfl) hu
                    rw [hbf]
                    exact hok.2 ⟨q, mem_rest.2 ⟨hq, by rw [he']; exact hu⟩, he'⟩
                have H7 := Lib.hid (And.intro (HT.out.1.frNo hf7) (And.intro (HT.out.2.1.trans hf7.no) (HT.out.2.2.keep (hf7.block ob HT.out.2.2.lt (fun h => h)))))
                clear hf7 hok hb HU
                subst hne
                cases b with
                | false =>
                  go_wp2_with fail
                  go_roundg (i - t)
                  case measure => omega
                  case rel => exact ⟨t + 1, by go_num, by omega, by omega, H7.out⟩
                | true =>
                  go_wp2_with fail
                  go_roundg (i - t)
                  case measure => omega
                  case rel => exact ⟨t + 1, by go_num, by omega, by omega, H7.out⟩
              · obtain ⟨p, hp, hpj, hup⟩ := HG.out.1.up HG.out.2 hk1.1 (show 1 ≤ j by omega) (show j ≤ i by omega)
                have o1 : wr.cell? ⟨ob, j, none⟩ = some (.int .i64 p) := HT.out.2.2.cell hp
                have r1 : (0 : Int) < (j : Int) := by omega
                have r2 : (j : Int) < (i : Int) + 1 := by omega
                have r3 : (0 : Int) ≤ (j : Int) := by omega
                have HUP := Lib.hid hup
                clear hp hup
                cases b with
                | true =>
                  go_wp2_with fail
                  go_roundg j
                  case measure => omega
                  case rel => exact ⟨p, true, rfl, rfl, by omega, by omega, rfl, Lib.hid (by have := HU.out; simp at this ⊢; exact this)⟩
                | false =>
                  by_cases hjk : (j : Int) = k
                  · have HJK := Lib.hid hjk
                    subst hjk
                    go_wp2_with fail
                    go_roundg j
                    case measure => omega
                    case rel => exact ⟨p, true, by simp, rfl, by omega, by omega, rfl, Lib.hid (by
                      have h1 := HU.out
                      exact ⟨fun _ => .inl rfl, fun _ => h1.2 (.inr ⟨by omega, .self⟩)⟩)⟩
                  · have hjk2 : ((j : Int) == k) = false := by simpa using hjk
                    go_wp2_with fail
                    go_roundg j
                    case measure => omega
                    case rel => exact ⟨p, false, by simp, rfl, by omega, by omega, rfl, by
                      have h1 := HU.out
                      have h2 := HUP.out
                      constructor
                      · intro hu
                        rcases h1.1 hu with h | ⟨_, h⟩
                        · cases h
                        · rcases h2.1 h with h | h
                          · exact absurd h hjk
                          · exact .inr h
                      · rintro (h | h)
                        · cases h
                        · exact h1.2 (.inr ⟨by omega, h2.2 (.inr h)⟩)⟩
          · obtain rfl : t = i := by omega
            have q1 : ¬ ((t : Int) + 1 ≤ (t : Int)) := by omega
            go_wp2_with fail
            refine (awake_any _).mono ?_
            rintro e w7 ⟨rfl, hf7⟩
            have H7 := Lib.hid (And.intro (HT.out.1.frNo hf7) (HT.out.2.1.trans hf7.no))
            have hn5b : n5 ≤ 40 := by have := hfl.out.2; omega
            clear hf7 hlen hmin b1 hk1 hn1 q0 q1 htg hti ht p2 hn0 hin hig hi
            go_wp2_with fail
            refine (N.tlen_any S tb (rest L k) _ _ H7.out.1).mono ?_
            rintro e w8 ⟨rfl, rfl⟩
            have hrl : (((rest L k).length : Nat) : Int) = (t : Int) - ((n5 : Int) + 1) := by have := hfl.out.2; omega
            rw [hrl]
            go_wp2_with fail
            refine (N.cancel_miss S tb (rest L k) _ k _ H7.out.1 wk.out (fun r hr e => (mem_rest.1 hr).2 (e ▸ .self))).mono ?_
            rintro e w9 ⟨rfl, rfl⟩
            go_wp2_with fail
            go_ret
            exact ⟨rfl, H7.out.2.below (fun k hk => hk) (Nat.le_refl _)⟩

set_option maxRecDepth 100000 in
theorem lifted (os : Os) (started : os.Started) (H : Type) (enc : TypeId × Value → H) :
    ReturnsInHanded {} Try.checked os 5 .any (Rows.timerCancelsSubtreeSpec.pre6 enc Try.prog Try.f5 Rows.timerCancelsSubtreeRow.domain false) (Rows.timerCancelsSubtreeSpec.post enc Try.prog Try.f5 false true false false) := by
  refine returnsInHanded_of_change (C := Try.checked) own started (by kernel_rfl) Try.func5
    (ChangeSpec.witness6 (enc := enc) (C := Try.checked) false ⟨#[], #[.slice none 0 0, .int .i64 0], []⟩ 8 (by kernel_rfl) (by kernel_rfl) (by kernel_rfl) (by kernel_rfl)) ?_
  intro W base args ds gs before hval0 hW hcnd _
  have hval : ∀ (j : Nat) t v, Try.f5.params[j]? = some t → args[j]? = some v → Value.okWide Try.prog W .any base t v := hval0
  have hW' := hW
  obtain ⟨p, q, hA0, hV, rfl, hfz, hnd⟩ := hW
  have hA : DataW.TrodAll enc Try.prog W 0 (fun _ => true) true Try.f5.params.toList args.toList ds p := hA0
  rw [Try.params5] at hA hval
  obtain ⟨v0, vs0, d0, ds0, p0, q0, hargs, rfl, rfl, h0, r0⟩ := trodAll_cons hA
  obtain ⟨v1, vs1, d1, ds1, p1, q1, rfl, rfl, rfl, h1, r1⟩ := trodAll_cons r0
  obtain ⟨rfl, rfl, rfl⟩ := trodAll_nil r1
  obtain rfl : args = #[v0, v1] := by cases args; simp_all
  obtain ⟨rfl, rfl⟩ := trodVars_none hV
  obtain ⟨a0, len0, cap0, rfl⟩ := okWide_slice Try.underlying33 (hval 0 33 v0 rfl rfl)
  have k0 := h0
  have lt0 : ∀ x ∈ p0, x.block < W.heap.size := by obtain ⟨m, hm⟩ := k0; exact DataW.trod_lt m _ _ _ hm
  obtain ⟨z0, w0⟩ : ∃ zs, IsRow .i64 W a0 len0 cap0 zs := by
    obtain ⟨fuel, hf⟩ := h0
    rcases open_ints Try.underlying33 Try.underlying3 (by kernel_rfl) hf with ⟨hcs, _⟩ | ⟨x, l, c, zs, hcs, _, hl, hm, hz, _, hcell, hwz⟩
    · simp [Value.cells] at hcs
      obtain ⟨rfl, rfl, rfl⟩ := hcs
      exact ⟨[], .inl ⟨rfl, rfl, rfl, rfl⟩⟩
    · simp [Value.cells] at hcs
      obtain ⟨rfl, rfl, rfl⟩ := hcs
      exact ⟨zs, .inr ⟨_, rfl, hl, hm, by simpa using hz, hcell, hwz⟩⟩
  obtain ⟨a1, rfl, rfl, rfl, w1⟩ := open_int Try.underlying3 (hval 1 3 v1 rfl rfl) h1
  clear hA0 hval0
  refine (walk a0 len0 cap0 z0 a1 W w0 w1).mono fun e W' ⟨he, bel⟩ => ?_
  subst he
  exact ⟨_, rfl, _, _, _, [], _, [], hW', trodAll_mk1 (shut_bool Try.underlying4 _), (trodAll_cons_mk (Below.trod laidOut (by kernel_rfl) (of_decide_eq_true (by kernel_rfl)) k0 bel lt0) (trodAll_cons_mk (shut_int Try.underlying3 w1) trodAll_mk0)), rfl, bel.frame _, fun h => by cases h⟩

theorem over : Rows.timerCancelsSubtreeRow.holds Try.pinned (OpenSpec.ofChange Rows.timerCancelsSubtreeSpec) :=
  OpenClaim.holds_of_wide 5 Try.f5 rfl rfl rfl rfl rfl rfl rfl ⟨rfl, rfl, rfl, rfl, rfl⟩ rfl rfl rfl rfl rfl (by kernel_rfl) Try.func5 (by kernel_rfl)
    (of_decide_eq_true (by kernel_rfl)) (by unfold Func.isWrapper; first | (rw [if_pos (by decide +kernel)]; kernel_rfl) | (rw [if_neg (by decide +kernel)]; exact ⟨rfl, rfl⟩))
    (fun os started H enc _ => lifted os started H enc)

end Go.Proofs.Ytbgddldkpjeieaa.timerCancelsSubtree

namespace Go.Proofs.Ytbgddldkpjeieaa
/-- The statement. -/
theorem timerCancelsSubtree_holds : Rows.TimerCancelsSubtreeSaid := timerCancelsSubtree.over
#print axioms timerCancelsSubtree_holds
end Go.Proofs.Ytbgddldkpjeieaa
