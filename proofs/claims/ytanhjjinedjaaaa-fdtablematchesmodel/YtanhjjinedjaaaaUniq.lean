/-
  CONTRACT of the law FdtableNumbersUnique, over this seat's translation: it returns true.
  Conditions: the operations lie in memory as OpRow says.
-/
import Derived.Test.YtanhjjinedjaaaaOps
import Derived.Deep.DeepCutAuto
import Derived.Deep.CutBlock
namespace Go.Proofs.Ytanhjjinedjaaaa
open Go.ChangeShapes Go.WideShapes Go.ChangeAt Go.RowKit
set_option linter.unusedVariables false

/-- Which numbers the first entries have. -/
def Marks16 (L : List D) (U : List Bool) : Prop := U.length = 16 ∧ ∀ (m : Nat) (b : Bool), U[m]? = some b → (b = true ↔ ∃ d ∈ L, d.no = m)

theorem Marks16.start : Marks16 [] (List.replicate 16 false) := by
  refine ⟨List.length_replicate, fun m b hb => ?_⟩
  rw [List.getElem?_replicate] at hb
  split at hb
  · cases hb; simp
  · cases hb
theorem Marks16.step {L : List D} {U : List Bool} (h : Marks16 L U) (d : D) : Marks16 (L ++ [d]) (U.set d.no true) := by
  refine ⟨by rw [List.length_set]; exact h.1, fun m b hb => ?_⟩
  rw [List.getElem?_set] at hb
  by_cases hm : d.no = m
  · rw [if_pos hm] at hb
    split at hb
    · cases hb
      exact ⟨fun _ => ⟨d, by simp, hm⟩, fun _ => rfl⟩
    · cases hb
  · rw [if_neg hm] at hb
    rw [h.2 m b hb]
    constructor
    · rintro ⟨e, he, hn⟩
      exact ⟨e, by simp [he], hn⟩
    · rintro ⟨e, he, hn⟩
      rcases List.mem_append.1 he with h1 | h1
      · exact ⟨e, h1, hn⟩
      · simp at h1; subst h1; exact absurd hn hm


theorem zero49 : (Try.prog.info? 49).map (fun i => (i.zero, i.size, i.bytes)) = some (some (.agg (bools (List.replicate 16 false)).toArray), 16, 16) := by kernel_rfl

/-- A new reference beside a table. -/
theorem pr_born {w0 w : World} {hb k : Nat} (h : Duo w0 w No (Tab hb [] k 0) Nil) (hk : k ≤ 256) : Pr w0 (w.alloc (.cells #[.int .i64 k, .slice none 0 0, .int .i64 0] 36)) No hb w.heap.size [] [] k 0 := by
  obtain ⟨S, hA, hS, hZ, hT⟩ := h.b
  refine ⟨(hT _ (Ref w.heap.size [] k 0) (ref_mov _ _ _ _) ?_ (Fr.alloc S w _)).1, List.Perm.refl _⟩
  refine ⟨⟨.slice none 0 0, ⟨heap_alloc_new w _, World.ownsRow_nil _ _ _ _, by simp [Value.ownBlock]⟩, ?_⟩, by simp, hk⟩
  rintro q (rfl | hq)
  · exact hS _ (Nat.le_refl _)
  · simp [Value.ownBlock] at hq

theorem Ends.cells {w : World} {base n cap : Nat} {a : Option Addr} {K : List (Int × Int)} (h : Ends w base a n cap K) {j : Nat} {p : Int × Int} (hp : K[j]? = some p) : ∃ b, a = some ⟨b, 0, none⟩ ∧ w.cell? ⟨b, j * 2, none⟩ = some (.int .i64 p.1) ∧ w.cell? ⟨b, j * 2 + 1, none⟩ = some (.int .i64 p.2) := by
  have hA := At.own h
  obtain ⟨h1, h2⟩ := flatP_get K j p hp
  obtain ⟨b, off, ha, hc⟩ := hA (j * 2) _ h1
  obtain ⟨b', off', ha', hc'⟩ := hA (j * 2 + 1) _ h2
  have hn := h.len
  obtain ⟨g, cap', hv, _⟩ := World.ownsRow.form h (by have := (List.getElem?_eq_some_iff.1 hp).1; omega)
  cases hv
  cases ha
  cases ha'
  refine ⟨_, rfl, ?_, ?_⟩
  · rw [Nat.zero_add] at hc; exact hc
  · rw [Nat.zero_add] at hc'; exact hc'

theorem nodup_get {L : List D} (h : L.Pairwise (fun d e => d.no ≠ e.no)) {i j : Nat} {d e : D} (hij : i < j) (hi : L[i]? = some d) (hj : L[j]? = some e) : d.no ≠ e.no := by
  rw [List.pairwise_iff_getElem] at h
  obtain ⟨h1, rfl⟩ := List.getElem?_eq_some_iff.1 hi
  obtain ⟨h2, rfl⟩ := List.getElem?_eq_some_iff.1 hj
  exact h i j h1 h2 hij

set_option maxHeartbeats 4000000 in
set_option maxRecDepth 100000 in
theorem unique_law (a0 : Int) (a1 : Option Addr) (len1 cap1 : Nat) (w : World) (b0 : -9223372036854775808 ≤ a0 ∧ a0 ≤ 9223372036854775807) (w1 : OpRow w a1 len1) :
    Calls Try.prog 5 #[.int .i64 a0, .slice a1 len1 cap1] w fun e w' => e = .returned (.bool true) ∧ Below w.heap.size w w' := by
  obtain ⟨m, hm, hM⟩ := mod_fix a0 10 10 rfl (by omega) (by omega) b0
  have HM := Lib.hid hM
  have HW := Lib.hid w1.2
  have hlen : len1 ≤ 9223372036854775807 := w1.1
  obtain ⟨k, hk⟩ : ∃ k, k = 1 + m := ⟨_, rfl⟩
  have ek : 1 + (m : Int) = (k : Int) := by omega
  have hk10 : k ≤ 10 := by omega
  have hk1 : 1 ≤ k := by omega
  clear hM b0 w1 hk
  go_enter Try.func5, Try.ntmps5
  go_wp2_with fail
  refine (HM.out _).mono ?_
  rintro e wa ⟨rfl, hw⟩
  have hw' := hw.symm
  subst hw'
  clear hw HM
  go_wp2_with fail
  clear ek hm
  refine (new_ok (fun q => w.heap.size ≤ q) k _ hk1 (by omega) (fun q hq => hq)).mono ?_
  rintro e wb ⟨hb, rfl, hA1, hf1⟩
  have H1 : Hid (Duo w wb No (Tab hb [] k 0) Nil) := (duo_born (tab_mov hb [] k 0) hA1 (fun q hq => hq) hf1 (Fr.refl _ _)).less fun q hq => hq.elim
  clear hA1 hf1
  have H2 := Lib.hid (pr_born H1.out (by omega))
  clear H1
  go_wp2_with fail
  obtain ⟨rb, hrb⟩ : ∃ rb, wb.heap.size = rb := ⟨_, rfl⟩
  rw [hrb] at H2 ⊢
  clear hrb
  revert H2
  generalize wb.alloc (.cells #[.int .i64 k, .slice none 0 0, .int .i64 0] 36) = y
  intro H2
  obtain ⟨Z49, hZ49⟩ : ∃ Z, (bools (List.replicate 16 false)).toArray = Z := ⟨_, rfl⟩
  have hz : ∀ w, (zeroValue 49).run Try.prog w = .ok (.agg Z49) w := fun w => by
    obtain ⟨i0, hi0, hz0, _, _⟩ := info_parts zero49
    rw [hZ49] at hz0
    simp [zeroValue, typeInfo, hi0, hz0]
  have HZ := Lib.hid (And.intro hZ49 hz)
  clear hZ49 hz
  go_loopg [9] 81 (fun g s9 wr => ∃ (i op : Nat) (L M : List D), s9 = .int .i64 i ∧ i ≤ 80 ∧ 80 - i < g ∧ op ≤ i ∧ Hid (Pr w wr No hb rb L M k op))
  case atStart => exact ⟨0, 0, [], [], by go_num, by omega, by omega, by omega, H2.out⟩
  case round =>
    obtain ⟨i, op, L, M, rfl, hi80, hg, hop, HR⟩ := hrel
    clear H2
    by_cases hil : i < len1
    · have q1 : (i : Int) < (len1 : Int) := by omega
      by_cases hi : i < 80
      · have q2 : (i : Int) < 80 := by omega
        have q0 : (0 : Int) ≤ (i : Int) := by omega
        obtain ⟨kd, c, t, p, hOp⟩ := HW.out i hil
        have hOp2 := hOp.old HR.out.duo.fr
        obtain ⟨⟨ob, off, ha, o0, o1, o2, o3⟩, bk, bc, bt⟩ := hOp2
        subst ha
        have HB := Lib.hid (And.intro bk (And.intro bc bt))
        clear hOp bk bc bt
        go_wp2_with fail
        clear o0 o1 o2 o3
        refine (applyBoth_any w _ No hb rb L M k op kd c t p HR.out (by omega) HB.out.1 HB.out.2.1 HB.out.2.2).mono ?_
        rintro e wc ⟨rfl, L', M', op', hop', hP, -⟩
        have H3 := Lib.hid hP
        clear hP HR HB
        go_wp2_with fail
        refine (duo_ends H3.out.duo).mono ?_
        rintro e wd ⟨ra, rn, rc, rfl, hE, hfd⟩
        obtain ⟨n, hn⟩ : ∃ n, L'.length = n := ⟨_, rfl⟩
        obtain rfl : rn = n := by rw [hE.len, List.length_map]; exact hn
        have hsnd := H3.out.duo.good
        have hnk : rn ≤ k := by have := hsnd.len; omega
        have HP4 : Hid (Pr w (wd.alloc (.cells Z49 49)) (fun q => q = wd.heap.size) hb rb L' M' k op') := ⟨((H3.out.frNo hfd).duo.box _).less fun q hq => .inr hq, H3.out.perm⟩
        have HE4 : Hid (Ends (wd.alloc (.cells Z49 49)) wc.heap.size ra rn rc (L'.map D.key) ∧ ∀ q, (Value.slice ra rn rc).ownBlock = some q → q ≠ wd.heap.size) := ⟨hE.frNo (Fr.alloc No _ _), fun q hq => by have := (World.ownsRow.lt hE q hq).2; omega⟩
        have HS4 : Hid ((wd.alloc (.cells Z49 49)).heap[wd.heap.size]? = some (.cells (bools (List.replicate 16 false)).toArray 49 (0, 0))) := by rw [HZ.out.1]; exact heap_alloc_new wd _
        have HSN := Lib.hid (And.intro hsnd hn)
        have hz := HZ.out.2
        clear hE hfd hsnd hn H3
        go_wp2_with fail
        clear hz
        obtain ⟨sb, hsb⟩ : ∃ sb, wd.heap.size = sb := ⟨_, rfl⟩
        rw [hsb] at HP4 HE4 HS4 ⊢
        clear hsb
        revert HS4; revert HE4; revert HP4
        generalize wd.alloc (.cells Z49 49) = ye
        intro HP4 HE4 HS4
        go_loopg [12] (rn + 1) (fun g2 s12 wr2 => ∃ j : Nat, s12 = .int .i64 j ∧ j ≤ rn ∧ rn - j < g2 ∧ Hid (Pr w wr2 (fun q => q = sb) hb rb L' M' k op' ∧ Ends wr2 wc.heap.size ra rn rc (L'.map D.key) ∧ ∃ U, wr2.heap[sb]? = some (.cells (bools U).toArray 49 (0, 0)) ∧ Marks16 (L'.take j) U))
        case atStart => exact ⟨0, by go_num, by omega, by omega, HP4.out, HE4.out.1, _, HS4.out, by rw [List.take_zero]; exact Marks16.start⟩
        case round =>
          obtain ⟨j, rfl, hjn, hjg, HR2⟩ := hrel
          have HEN := Lib.hid HE4.out.2
          by_cases hj : j < rn
          · obtain ⟨d, hd⟩ : ∃ d, L'[j]? = some d := ⟨_, List.getElem?_eq_getElem (by have := HSN.out.2; omega)⟩
            obtain ⟨eb, rfl, e0, e1⟩ := HR2.out.2.1.cells (j := j) (p := d.key) (by rw [List.getElem?_map, hd]; rfl)
            have q3 : (0 : Int) ≤ (j : Int) := by omega
            have q4 : (j : Int) < (rn : Int) := by omega
            have HD := Lib.hid hd
            obtain ⟨dc, da, dn, ds⟩ := d
            simp only [D.key] at e0 e1
            clear hd
            go_wp2_with fail
            clear e0 e1
            refine (duo_number HR2.out.1.duo dc da).mono ?_
            rintro e wn ⟨v, rfl, hv, hfn⟩
            have hv' := hv.mem (d := ⟨dc, da, dn, ds⟩) HSN.out.1.sorted (List.mem_of_getElem? HD.out) rfl
            simp only at hv'
            subst hv'
            have hdk : dn < k := HSN.out.1.no _ (List.mem_of_getElem? HD.out)
            obtain ⟨U, hU, hMk⟩ := HR2.out.2.2
            have hUn : wn.heap[sb]? = some (.cells (bools U).toArray 49 (0, 0)) := (hfn.block sb (Array.getElem?_eq_some_iff.1 hU).1 (fun h => h)).trans hU
            have hUd : U[dn]? = some false := by
              obtain ⟨b, hb⟩ : ∃ b, U[dn]? = some b := ⟨_, List.getElem?_eq_getElem (by rw [hMk.1]; omega)⟩
              cases b with
              | false => exact hb
              | true =>
                obtain ⟨e, he, hne⟩ := (hMk.2 dn true hb).1 rfl
                obtain ⟨i2, hi2⟩ := List.mem_iff_getElem?.1 he
                rw [List.getElem?_take] at hi2
                split at hi2
                · rename_i hlt
                  exact absurd hne (nodup_get HSN.out.1.nodup hlt hi2 HD.out)
                · cases hi2
            have s0 := bools_cell hUn hUd
            have s1 : wn.frozen? ⟨sb, dn, none⟩ = false := frozen_of_row _ _ _ _ _ hUn
            have H5 := Lib.hid (And.intro (HR2.out.1.frNo hfn) (And.intro (HR2.out.2.1.frNo hfn) (And.intro hUn hMk)))
            have r1 : ¬ ((dn : Int) < 0) := by omega
            have r2 : ¬ ((k : Int) ≤ (dn : Int)) := by omega
            have r3 : (0 : Int) ≤ (dn : Int) := by omega
            have r4 : (dn : Int) < 16 := by omega
            clear hv hfn hU hMk hUn hUd
            go_wp2_with fail
            go_roundg (rn - j)
            case measure => exact hjg
            case rel =>
              have hfs : Fr (fun q => q = sb) wn (wn.setCell ⟨sb, dn, none⟩ (.bool true)) := Fr.setCell _ _ _ _ rfl
              refine ⟨j + 1, by go_num, by omega, by omega, ⟨H5.out.1.duo.turn hfs (fun q hq => hq) (fun q hq => .inl hq), H5.out.1.perm⟩, ?_, U.set dn true, ?_, ?_⟩
              · exact row_keep H5.out.2.1 fun q hq => hfs.block q (World.ownsRow.lt H5.out.2.1 q hq).2 (HEN.out q hq)
              · rw [heap_setCell_same _ sb dn _ _ _ H5.out.2.2.1, ← bools_set]; simp
              · rw [List.take_succ_eq_append_getElem (by have := HSN.out.2; omega)]
                have he : L'[j]'(by have := HSN.out.2; omega) = ⟨dc, da, dn, ds⟩ := by
                  have := HD.out
                  rw [List.getElem?_eq_getElem (by have := HSN.out.2; omega)] at this
                  exact Option.some.inj this
                rw [he]
                exact H5.out.2.2.2.step _
          · obtain rfl : j = rn := by omega
            have q4 : ¬ ((j : Int) < (j : Int)) := by omega
            obtain ⟨f, hf⟩ : ∃ f, k - j = f := ⟨_, rfl⟩
            have q5 : ¬ ((k : Int) < (j : Int)) := by omega
            have q6 : (j : Int) + (f : Int) = (k : Int) := by omega
            have HFF := Lib.hid hf
            clear hf
            go_wp2_with fail
            refine (duo_free HR2.out.1.duo j f HSN.out.2 HFF.out).mono ?_
            rintro e wf ⟨rfl, hff⟩
            have H6 : Hid (Pr w wf No hb rb L' M' k op') := ⟨(HR2.out.1.frNo hff).duo.less (fun q hq => hq.elim), HR2.out.1.perm⟩
            clear hff
            go_wp2_with fail
            go_roundg (80 - i)
            case measure => exact hg
            case rel => exact ⟨i + 1, op', L', M', by go_num, by omega, by omega, by omega, H6.out⟩
      · obtain rfl : i = 80 := by omega
        go_wp2_with fail
        refine (awake_any _).mono ?_
        rintro e wz ⟨rfl, hf⟩
        have HE := Lib.hid (HR.out.frNo hf)
        clear hf
        go_wp2_with fail
        go_ret
        exact ⟨rfl, HE.out.duo.fr.below (fun q hq => hq) (Nat.le_refl _)⟩
    · have q1 : ¬ ((i : Int) < (len1 : Int)) := by omega
      go_wp2_with fail
      refine (awake_any _).mono ?_
      rintro e wz ⟨rfl, hf⟩
      have HE := Lib.hid (HR.out.frNo hf)
      clear hf
      go_wp2_with fail
      go_ret
      exact ⟨rfl, HE.out.duo.fr.below (fun q hq => hq) (Nat.le_refl _)⟩

end Go.Proofs.Ytanhjjinedjaaaa
