/-
  The law RingMatchesModel returns true for every number and every list of operations, and changes nothing that was in memory before.
  Conditions: none beyond the row's own.
-/
import Derived.Test.YtmgpeonnmfidhaaMd
import Derived.WalkKit
import Derived.ProofKit
import Derived.OpenShut
import Derived.ShutString
import Derived.ChangeOld
import Derived.Below
import Derived.Deep.DeepCutAuto
import Derived.Deep.CutBlock
import Derived.Deep.RegionHeld3
namespace Go.Proofs.Ytmgpeonnmfidhaa.ringMatchesModel
open Go.ChangeShapes Go.WideShapes Go.ChangeAt Go.RowKit
open Go.ChangeMaps (open_string shut_string)
set_option linter.unusedVariables false

theorem own : ownKnob Try.prog.godebug = none := by kernel_rfl
theorem laidOut : laidOutB Try.prog = true := by kernel_rfl

set_option maxHeartbeats 16000000 in
set_option maxRecDepth 1000000 in
theorem walk (a0 : Int) (a1 : Option Addr) (len1 cap1 : Nat) (w : World) (w0 : (Lit.int .i64 a0).wf = true) (w1 : OpRow w a1 len1) :
    Calls Try.prog 4 #[.int .i64 a0, .slice a1 len1 cap1] w fun e w' => e = .returned (.bool true) ∧ Below w.heap.size w w' := by
  have HI := Lib.hid w1
  have hlen := HI.out.1
  have b0 := bounds_i64 w0
  clear w0 w1
  obtain ⟨r0, hr0, hm0⟩ := mod_fix a0 12 12 rfl (by omega) (by omega) b0
  obtain ⟨k, hk⟩ : ∃ k : Nat, k = 1 + r0 := ⟨_, rfl⟩
  have ek : (1 : Int) + (r0 : Int) = (k : Int) := by omega
  have hk1 : 1 ≤ k := by omega
  have hk12 : k ≤ 12 := by omega
  have hr0' : r0 ≤ 12 := by omega
  have HM := Lib.hid hm0
  clear hm0 hr0 hk b0
  go_enter Try.func4, Try.ntmps4
  go_wp2_with fail
  refine (HM.out _).mono ?_
  rintro e wm ⟨rfl, hwm⟩
  have hwm' := hwm.symm
  subst hwm'
  clear hwm HM
  go_wp2_with fail
  refine (new_ok (fun j => w.heap.size ≤ j) k _ (by omega) (by omega) (fun j hj => hj)).mono ?_
  rintro e w1 ⟨hb, rfl, hhb, hA1, hf1⟩
  have H1 : Hid (Md w w1 hb k [] none 0 0 No) := md_born ((uno_born hA1 (fun j hj => hj) hf1 (Fr.refl _ _)).less fun j hj => hj.elim)
  clear hA1 hf1 hhb
  go_wp2_with fail
  go_loopg [8, 9] 91 (fun gg s8 s9 wr => ∃ (i c xc : Nat) (xa : Option Addr) (Q : List Int), s8 = .slice xa c xc ∧ s9 = .int .i64 i ∧ i ≤ 90 ∧ 90 - i < gg ∧ Hid (Md w wr hb k Q xa c xc No))
  case atStart => exact ⟨0, 0, 0, none, [], rfl, rfl, by omega, by omega, H1.out⟩
  case round =>
    obtain ⟨i, c, xc, xa, Q, rfl, rfl, hi90, hig, HR⟩ := hrel
    clear H1
    have hck := HR.out.ck.1
    have hxc := HR.out.cap
    have hxf := HR.out.fits
    by_cases hin : i < len1 ∧ i < 90
    · obtain ⟨hin1, hin2⟩ := hin
      obtain ⟨kd, nn, la, ll, lc, zs, hop⟩ := HI.out.2 i hin1
      have HP := Lib.hid hop
      obtain ⟨b, off, rfl, c0, c1, c2⟩ := (hop.old HR.out.uno.fr).at_
      have hlc := hop.cap
      have hlf := hop.fits
      obtain ⟨d, hd6, hmd⟩ := mod_fix kd 6 6 rfl (by omega) (by omega) hop.kb
      have HMD := Lib.hid hmd
      obtain ⟨mx, hmx⟩ : ∃ mx, max nn 0 = mx := ⟨_, rfl⟩
      obtain ⟨m, hm⟩ : ∃ m : Nat, min mx (c : Int) = m := ⟨(min mx (c : Int)).toNat, by omega⟩
      have hmc : m ≤ c := by omega
      have HMM := Lib.hid (And.intro hmx hm)
      have pm0 : (0 : Int) ≤ (m : Int) := by omega
      have pmx : (m : Int) ≤ (xc : Int) := by omega
      have p1 : (0 : Int) ≤ (i : Int) := by omega
      have p2 : (i : Int) < (len1 : Int) := by omega
      have p3 : (i : Int) < 90 := by omega
      clear hop hmd hmx hm
      go_wp2_with (first
        | (with_reducible refine wpList_max rfl (.tmp 44) (.const (.int .i64 0)) rfl nn 0 mx rfl rfl HMM.out.1 ?_)
        | (with_reducible refine wpList_min rfl (.tmp 45) (.tmp 47) rfl mx c m rfl rfl HMM.out.2 ?_)
        | fail)
      have HD : Hid (Md w (wr.alloc (.cells #[.int .i64 kd, .int .i64 nn, .slice la ll lc] 36)) hb k Q xa c xc (fun j => j = wr.heap.size)) := (HR.out.box _).less fun j hj => .inr hj
      have HB : Hid ((wr.alloc (.cells #[.int .i64 kd, .int .i64 nn, .slice la ll lc] 36)).heap[wr.heap.size]? = some (.cells #[.int .i64 kd, .int .i64 nn, .slice la ll lc] 36 (0, 0))) := heap_alloc_new wr _
      obtain ⟨ob, hob⟩ : ∃ ob, wr.heap.size = ob := ⟨_, rfl⟩
      rw [hob] at HD HB ⊢
      clear hob HR c0 c1 c2
      revert HD; revert HB
      generalize wr.alloc (.cells #[.int .i64 kd, .int .i64 nn, .slice la ll lc] 36) = wb
      intro HB HD
      refine (HMD.out _).mono ?_
      rintro e wm ⟨rfl, hwm⟩
      have hwm' := hwm.symm
      subst hwm'
      clear hwm HMD
      go_upto_block 2 with fail
      go_cut [8, 12] (fun s8 s12 wx => s12 = .bool true ∧ ∃ (c xc : Nat) (xa : Option Addr) (Q : List Int), s8 = .slice xa c xc ∧ Hid (Md w wx hb k Q xa c xc No))
      case first =>
        have o1 : wb.cell? ⟨ob, 1, none⟩ = some (.int .i64 nn) := by rw [cell_of_row _ _ 1 _ _ _ HB.out]; rfl
        have o2 : wb.cell? ⟨ob, 2, none⟩ = some (.slice la ll lc) := by rw [cell_of_row _ _ 2 _ _ _ HB.out]; rfl
        by_cases hd3 : d < 3
        · have q1 : (d : Int) < 3 := by omega
          obtain ⟨kc, hkc⟩ : ∃ kc : Nat, k - c = kc := ⟨_, rfl⟩
          have ekc : (k : Int) - (c : Int) = (kc : Int) := by omega
          obtain ⟨tk, htk⟩ : ∃ tk : Nat, min ll kc = tk := ⟨_, rfl⟩
          have HK : Hid (k - c = kc ∧ min ll kc = tk ∧ min (ll : Int) (kc : Int) = (tk : Int)) := ⟨hkc, htk, by omega⟩
          have hkc12 : kc ≤ 12 := by omega
          have htl : tk ≤ ll := by omega
          have htk12 : tk ≤ 12 := by omega
          have pt0 : (0 : Int) ≤ (tk : Int) := by omega
          have ptl : (tk : Int) ≤ (lc : Int) := by omega
          clear hkc htk
          go_wp2_with (first
            | (with_reducible refine wpList_min rfl (.tmp 65) (.tmp 69) rfl ll kc tk rfl rfl HK.out.2.2 ?_)
            | fail)
          obtain ⟨S1, hT1, hS1, -, hO1, hB1⟩ := HD.out.uno.t
          have hAl : At wb la zs := HP.out.elems.old HD.out.uno.fr
          refine (push_any S1 hb Q zs k c ll lc tk la _ hT1 hS1 HD.out.len hAl HP.out.len hlc hlf HP.out.nil (fun h0 ad ha => hO1 _ (by subst ha; exact HP.out.elems.lt (by rw [HP.out.len]; exact h0))) (by rw [HK.out.1]; exact HK.out.2.1)).mono ?_
          rintro e w3 ⟨rfl, hA3, hf3⟩
          obtain ⟨hu3, hz3⟩ := hB1 _ _ hA3 hf3
          have H3 := Lib.hid (And.intro hu3 (And.intro ((hz3 ob (.inr rfl)).trans HB.out) (HD.out.keep hz3)))
          have o3 : w3.cell? ⟨ob, 2, none⟩ = some (.slice la ll lc) := by rw [cell_of_row _ _ 2 _ _ _ H3.out.2.1]; rfl
          have o5 : (w3.alloc (.cells #[] 3)).cell? ⟨ob, 2, none⟩ = some (.slice la ll lc) := (World.cell?_of_block (a := ⟨ob, 2, none⟩) (Below.heap_alloc _ _ _ (Array.getElem?_eq_some_iff.1 H3.out.2.1).1)).trans o3
          have HO : Hid ((w3.drew.alloc (.cells #[] 3)).ownsRow w3.heap.size 3 1 (.slice (some ⟨w3.heap.size, 0, none⟩) 0 0) 0 (ints [])) := World.ownsRow_made w3.drew #[] 0 (Nat.le_refl _) (Nat.zero_le _) rfl
          have HX : Hid (At (w3.drew.alloc (.cells #[] 3)) xa Q) := H3.out.2.2.frNo ((Fr.drew No w3).trans (Fr.alloc No _ _))
          have hob3 : ob < w3.heap.size := (Array.getElem?_eq_some_iff.1 H3.out.2.1).1
          clear hT1 hS1 hO1 hB1 hA3 hf3 hu3 hz3 hAl o1 o2
          go_wp2_with fail
          go_region_held3 (fun w' => w'.cell? ⟨ob, 2, none⟩ = some (.slice la ll lc)) (go_keep) (first
            | (refine step_append_ints rfl (.tmp 77) (.tmp 78) rfl w3.heap.size _ 0 [] rfl HO.out xa c xc Q rfl HD.out.len HX.out HD.out.nil (by unfold maxLen; omega) (by omega) (by simp) ?_; intro a4 c4 w4 hown4 hgr4 hat4; rw [Nat.zero_add] at hown4 ⊢; rw [List.nil_append] at hown4; have hF4 : Fr No w3 w4 := ((Fr.drew No w3).trans (Fr.alloc No w3.drew (.cells #[] 3))).ofNew (Fr.grown (S := fun k => w3.heap.size ≤ k) hgr4 (fun k hk => Nat.le_of_eq (Option.some.inj hk))) (fun k hk => .inr hk); have o6 : w4.cell? ⟨ob, 2, none⟩ = some (.slice la ll lc) := (World.cell?_of_block (a := ⟨ob, 2, none⟩) (hF4.block ob hob3 (fun h => h))).trans o3; have H4 := Lib.hid (And.intro hown4 hF4); clear hown4 hgr4 hat4 hF4)
            | (refine step_append_ints rfl (.tmp 79) (.tmp 83) rfl w3.heap.size _ c Q rfl H4.out.1 la tk lc (zs.take tk) rfl (by rw [List.length_take, HP.out.len]; omega) ((HP.out.elems.old (H3.out.1.fr.trans H4.out.2.no)).take tk) HP.out.nil (by unfold maxLen; omega) (by omega) H4.out.2.size ?_; intro a5 c5 w5 hown5 hgr5 hat5; have hF5 : Fr No w3 w5 := H4.out.2.ofNew (Fr.grown (S := fun k => w3.heap.size ≤ k) hgr5 (fun k hk => (H4.out.1.lt k hk).1)) (fun k hk => .inr hk); have o7 : w5.cell? ⟨ob, 2, none⟩ = some (.slice la ll lc) := (World.cell?_of_block (a := ⟨ob, 2, none⟩) (hF5.block ob hob3 (fun h => h))).trans o3; have H5 := Lib.hid (And.intro hown5 hF5); clear hown5 hgr5 hat5 hF5))
          all_goals (
            go_wp2_with fail
            go_meet
            refine ⟨rfl, c + tk, c5, a5, Q ++ zs.take tk, rfl, ?_, At.own H5.out.1, ?_, (row_cap H5.out.1).1, (row_cap H5.out.1).2.1, (row_cap H5.out.1).2.2⟩
            · refine H3.out.1.turn H5.out.2 (fun j hj => hj.elim) fun j hj => ?_
              rcases hj with ⟨_, hj⟩ | hj
              · exact .inr (H5.out.1.lt j (blk_own.2 hj))
              · exact hj.elim
            · rw [List.length_append, List.length_take, HP.out.len, HD.out.len]
              omega)
        · by_cases hd5 : d < 5
          · have q1 : ¬ ((d : Int) < 3) := by omega
            have q2 : (d : Int) < 5 := by omega
            go_wp2_with fail
            obtain ⟨S1, hT1, hB1⟩ := (HD.out.frNo (Fr.drew No wb)).uno.q
            have HT := Lib.hid (And.intro hT1 hB1)
            clear hT1 hB1
            go_region_held3 (fun w' => w'.cell? ⟨ob, 1, none⟩ = some (.int .i64 nn)) (go_keep) (first
              | (go_at_call 16; refine (pop_any S1 hb Q k c m nn _ HT.out.1 HD.out.len (by have := HMM.out; omega)).mono ?_; rintro e w3 ⟨pa, pc, rfl, hown3, hA3, hf3⟩; obtain ⟨hu3, hz3⟩ := HT.out.2 _ _ hA3 hf3; have H3 := Lib.hid (And.intro hu3 (And.intro (At.own hown3) (And.intro ((hz3 ob (.inr rfl)).trans HB.out) ((HD.out.frNo (Fr.drew No wb)).keep hz3)))); have o3 : w3.cell? ⟨ob, 1, none⟩ = some (.int .i64 nn) := by rw [cell_of_row _ _ 1 _ _ _ H3.out.2.2.1]; rfl
                 clear hown3 hA3 hf3 hu3 hz3)
              | (go_at_call 15; refine (equal_same pa xa m pc xc (Q.take m) _ H3.out.2.1 (H3.out.2.2.2.take m) (by rw [List.length_take, HD.out.len]; omega) (by omega)).mono ?_; rintro e w4 ⟨rfl, hf4⟩; have H4 := Lib.hid (And.intro (H3.out.1.frNo hf4) (H3.out.2.2.2.frNo hf4)); have o4 : w4.cell? ⟨ob, 1, none⟩ = some (.int .i64 nn) := (World.cell?_of_block (a := ⟨ob, 1, none⟩) (hf4.block ob (H3.out.1.zlt (.inl (.inr rfl))) (fun h => h))).trans o3
                 clear hf4))
            all_goals (
              by_cases hmx : m = xc
              · obtain rfl : c = m := by omega
                subst hmx
                go_wp2_with fail
                go_meet
                refine ⟨rfl, 0, 0, xa, Q.drop c, rfl, H4.out.1.less (fun j hj => ?_), ?_, ?_, Nat.le_refl _, by omega, fun _ => rfl⟩
                · rcases hj with ⟨h, _⟩ | h
                  · omega
                  · exact h.elim
                · rw [List.drop_of_length_le (by have := HD.out.len; omega)]
                  exact At.nil _ _
                · rw [List.length_drop, HD.out.len]
                  omega
              · go_wp2_with fail
                go_meet
                exact ⟨rfl, c - m, xc - m, _, Q.drop m, rfl, Md.cut (H4.out.1.less fun j hj => by rcases hj with h | h; exact .inl (.inl h); exact h.elim) H4.out.2 HD.out.len hxc hxf hmc hmx HD.out.nil⟩)
          · have q1 : ¬ ((d : Int) < 3) := by omega
            have q2 : ¬ ((d : Int) < 5) := by omega
            go_wp2_with fail
            obtain ⟨S1, hT1⟩ := (HD.out.frNo (Fr.drew No wb)).uno.at_
            have HT := Lib.hid hT1
            clear hT1
            go_region_held3 (fun w' => w'.cell? ⟨ob, 1, none⟩ = some (.int .i64 nn)) (go_keep) (first
              | (go_at_call 17; refine (peek_any S1 hb Q k c m nn _ HT.out HD.out.len (by have := HMM.out; omega)).mono ?_; rintro e w3 ⟨pa, pc, rfl, hown3, hf3⟩; have H3 := Lib.hid (And.intro (HD.out.frNo ((Fr.drew No wb).trans hf3)) (And.intro (At.own hown3) ((((Fr.drew No wb).trans hf3).block ob (HD.out.elt rfl) (fun h => h)).trans HB.out))); have o3 : w3.cell? ⟨ob, 1, none⟩ = some (.int .i64 nn) := by rw [cell_of_row _ _ 1 _ _ _ H3.out.2.2]; rfl
                 clear hown3 hf3)
              | (go_at_call 15; refine (equal_same pa xa m pc xc (Q.take m) _ H3.out.2.1 (H3.out.1.at_.take m) (by rw [List.length_take, HD.out.len]; omega) (by omega)).mono ?_; rintro e w4 ⟨rfl, hf4⟩; have H4 := Lib.hid (H3.out.1.frNo hf4); have o4 : w4.cell? ⟨ob, 1, none⟩ = some (.int .i64 nn) := (World.cell?_of_block (a := ⟨ob, 1, none⟩) (hf4.block ob (H3.out.1.elt rfl) (fun h => h))).trans o3
                 clear hf4))
            all_goals (
              go_wp2_with fail
              go_meet
              exact ⟨rfl, c, xc, xa, Q, rfl, H4.out.less fun j hj => hj.elim⟩)
      case rest =>
        obtain ⟨rfl, c', xc', xa', Q', rfl, HC⟩ := hcut
        clear HD HB hck hxc hxf hmc pmx HMM
        have hck := HC.out.ck.1
        obtain ⟨f, hf⟩ : ∃ f : Nat, k - c' = f := ⟨_, rfl⟩
        have ef : (k : Int) - (c' : Int) = (f : Int) := by omega
        have HF := Lib.hid hf
        clear hf
        obtain ⟨S1, hT1⟩ := HC.out.uno.at_
        have HT := Lib.hid hT1
        clear hT1
        go_wp2_with (first
          | (go_at_call 18; refine (len_any S1 hb Q' k _ HT.out).mono ?_; rintro e w5 ⟨rfl, rfl⟩; rw [HC.out.len])
          | (go_at_call 19; refine (free_any S1 hb Q' k c' f _ HT.out HC.out.len HF.out).mono ?_; rintro e w6 ⟨rfl, hf6⟩; have H6 := Lib.hid (And.intro (HC.out.frNo hf6) (HT.out.frNo hf6)); clear hf6)
          | (go_at_call 20; refine (cap_any S1 hb Q' k _ H6.out.2).mono ?_; rintro e w7 ⟨rfl, rfl⟩))
        go_roundg (90 - i)
        case measure => exact hig
        case rel => exact ⟨i + 1, c', xc', xa', Q', rfl, by go_num, by omega, by omega, H6.out.1⟩
    · by_cases hin1 : i < len1
      · have p2 : (i : Int) < (len1 : Int) := by omega
        have p3 : ¬ ((i : Int) < 90) := by omega
        go_wp2_with fail
        refine (awake_any _).mono ?_
        rintro e w5 ⟨rfl, hf5⟩
        have H5 := Lib.hid (HR.out.frNo hf5)
        clear hf5
        go_wp2_with fail
        obtain ⟨S1, hT1⟩ := H5.out.uno.at_
        refine (peek_any S1 hb Q k c c k _ hT1 HR.out.len (by omega)).mono ?_
        rintro e w6 ⟨pa, pc, rfl, hown6, hf6⟩
        rw [List.take_of_length_le (by have := HR.out.len; omega)] at hown6
        have H6 := Lib.hid (And.intro (H5.out.frNo hf6) (At.own hown6))
        clear hT1 hown6 hf6
        go_wp2_with fail
        refine (equal_same pa xa c pc xc Q _ H6.out.2 H6.out.1.at_ HR.out.len (by omega)).mono ?_
        rintro e w7 ⟨rfl, hf7⟩
        have H7 := Lib.hid (H6.out.1.frNo hf7)
        clear hf7
        go_wp2_with fail
        go_ret
        exact ⟨rfl, H7.out.uno.fr.below (fun j hj => hj) (Nat.le_refl _)⟩
      · have p2 : ¬ ((i : Int) < (len1 : Int)) := by omega
        go_wp2_with fail
        refine (awake_any _).mono ?_
        rintro e w5 ⟨rfl, hf5⟩
        have H5 := Lib.hid (HR.out.frNo hf5)
        clear hf5
        go_wp2_with fail
        obtain ⟨S1, hT1⟩ := H5.out.uno.at_
        refine (peek_any S1 hb Q k c c k _ hT1 HR.out.len (by omega)).mono ?_
        rintro e w6 ⟨pa, pc, rfl, hown6, hf6⟩
        rw [List.take_of_length_le (by have := HR.out.len; omega)] at hown6
        have H6 := Lib.hid (And.intro (H5.out.frNo hf6) (At.own hown6))
        clear hT1 hown6 hf6
        go_wp2_with fail
        refine (equal_same pa xa c pc xc Q _ H6.out.2 H6.out.1.at_ HR.out.len (by omega)).mono ?_
        rintro e w7 ⟨rfl, hf7⟩
        have H7 := Lib.hid (H6.out.1.frNo hf7)
        clear hf7
        go_wp2_with fail
        go_ret
        exact ⟨rfl, H7.out.uno.fr.below (fun j hj => hj) (Nat.le_refl _)⟩

set_option maxRecDepth 100000 in
theorem lifted (os : Os) (started : os.Started) (H : Type) (enc : TypeId × Value → H) :
    ReturnsInHanded {} Try.checked os 4 .any (Rows.ringMatchesModelSpec.pre6 enc Try.prog Try.f4 Rows.ringMatchesModelRow.domain false) (Rows.ringMatchesModelSpec.post enc Try.prog Try.f4 false true false false) := by
  refine returnsInHanded_of_change (C := Try.checked) own started (by kernel_rfl) Try.func4
    (ChangeSpec.witness6 (enc := enc) (C := Try.checked) false ⟨#[], #[.int .i64 0, .slice none 0 0], []⟩ 8 (by kernel_rfl) (by kernel_rfl) (by kernel_rfl) (by kernel_rfl)) ?_
  intro W base args ds gs before hval0 hW hcnd _
  have hval : ∀ (j : Nat) t v, Try.f4.params[j]? = some t → args[j]? = some v → Value.okWide Try.prog W .any base t v := hval0
  have hW' := hW
  obtain ⟨p, q, hA0, hV, rfl, hfz, hnd⟩ := hW
  have hA : DataW.TrodAll enc Try.prog W 0 (fun _ => true) true Try.f4.params.toList args.toList ds p := hA0
  rw [Try.params4] at hA hval
  obtain ⟨v0, vs0, d0, ds0, p0, q0, hargs, rfl, rfl, h0, r0⟩ := trodAll_cons hA
  obtain ⟨v1, vs1, d1, ds1, p1, q1, rfl, rfl, rfl, h1, r1⟩ := trodAll_cons r0
  obtain ⟨rfl, rfl, rfl⟩ := trodAll_nil r1
  obtain rfl : args = #[v0, v1] := by cases args; simp_all
  obtain ⟨rfl, rfl⟩ := trodVars_none hV
  obtain ⟨a0, rfl, rfl, rfl, w0⟩ := open_int Try.underlying3 (hval 0 3 v0 rfl rfl) h0
  obtain ⟨a1, len1, cap1, rfl⟩ := okWide_slice Try.underlying29 (hval 1 29 v1 rfl rfl)
  have k1 := h1
  have lt1 : ∀ x ∈ p1, x.block < W.heap.size := by obtain ⟨m, hm⟩ := k1; exact DataW.trod_lt m _ _ _ hm
  have w1 : OpRow W a1 len1 := by
    obtain ⟨fuel, hf⟩ := h1
    exact ops_open hf
  clear hA0 hval0
  refine (walk a0 a1 len1 cap1 W w0 w1).mono fun e W' ⟨he, bel⟩ => ?_
  subst he
  exact ⟨_, rfl, _, _, _, [], _, [], hW', trodAll_mk1 (shut_bool Try.underlying4 _), (trodAll_cons_mk (shut_int Try.underlying3 w0) (trodAll_cons_mk (Below.trod laidOut (by kernel_rfl) (of_decide_eq_true (by kernel_rfl)) k1 bel lt1) trodAll_mk0)), rfl, bel.frame _, fun h => by cases h⟩

theorem over : Rows.ringMatchesModelRow.holds Try.pinned (OpenSpec.ofChange Rows.ringMatchesModelSpec) :=
  OpenClaim.holds_of_wide 4 Try.f4 rfl rfl rfl rfl rfl rfl rfl ⟨rfl, rfl, rfl, rfl, rfl⟩ rfl rfl rfl rfl rfl (by kernel_rfl) Try.func4 (by kernel_rfl)
    (of_decide_eq_true (by kernel_rfl)) (by unfold Func.isWrapper; first | (rw [if_pos (by decide +kernel)]; kernel_rfl) | (rw [if_neg (by decide +kernel)]; exact ⟨rfl, rfl⟩))
    (fun os started H enc _ => lifted os started H enc)

end Go.Proofs.Ytmgpeonnmfidhaa.ringMatchesModel

namespace Go.Proofs.Ytmgpeonnmfidhaa
/-- The statement. -/
theorem ringMatchesModel_holds : Rows.RingMatchesModelSaid := ringMatchesModel.over
#print axioms ringMatchesModel_holds
end Go.Proofs.Ytmgpeonnmfidhaa
